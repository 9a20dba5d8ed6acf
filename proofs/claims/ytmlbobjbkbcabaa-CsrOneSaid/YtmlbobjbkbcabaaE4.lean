/- The walk of CsrOne. -/
import Derived.Test.YtmlbobjbkbcabaaE3
import Derived.Test.YtmlbobjbkbcabaaE1
namespace Go.Proofs.Ytmlbobjbkbcabaa
open Go.ChangeShapes Go.WideShapes Go.ChangeAt Go.RowKit Go.Sort P
set_option linter.unusedVariables false
set_option linter.unusedSimpArgs false
set_option maxRecDepth 100000 in
theorem share_c (n : Int) (w : World) : Calls Try.prog 21 #[.int .i64 n] w (RetIX (shI n) w) := by
  by_cases a1 : n = 256
  · subst a1
    go_enter Try.func21, Try.ntmps21
    go_wp2_with fail
    go_ret
    exact retIX_mk rfl
  by_cases a2 : n = 260
  · subst a2
    go_enter Try.func21, Try.ntmps21
    go_wp2_with fail
    go_ret
    exact retIX_mk rfl
  by_cases a3 : n = 324
  · subst a3
    go_enter Try.func21, Try.ntmps21
    go_wp2_with fail
    go_ret
    exact retIX_mk rfl
  by_cases a4 : n = 2
  · subst a4
    go_enter Try.func21, Try.ntmps21
    go_wp2_with fail
    go_ret
    exact retIX_mk rfl
  by_cases a5 : n = 3
  · subst a5
    go_enter Try.func21, Try.ntmps21
    go_wp2_with fail
    go_ret
    exact retIX_mk rfl
  by_cases a6 : n = 3072
  · subst a6
    go_enter Try.func21, Try.ntmps21
    go_wp2_with fail
    go_ret
    exact retIX_mk rfl
  by_cases a7 : n = 3074
  · subst a7
    go_enter Try.func21, Try.ntmps21
    go_wp2_with fail
    go_ret
    exact retIX_mk rfl
  have e : Hid (shI n = n) := by
    show _ = _
    unfold shI
    rw [if_neg a1, if_neg a2, if_neg a3, if_neg (by rintro (q | q) <;> contradiction), if_neg a6, if_neg a7]
  go_enter Try.func21, Try.ntmps21
  go_wp2_with fail
  go_ret
  exact retIX_mk e.out.symm
set_option maxRecDepth 100000 in
set_option maxHeartbeats 2000000 in
theorem one_core (p : Option Addr) (b o N cap : Nat) (K : Nat → Int) (V : Nat → Nat) (n other : Int) (v : Nat) (hv : Hid (v < 18446744073709551616)) (w : World) (h : Hid (Lays w p b o N K V)) : Calls Try.prog 10 #[.slice p N cap, .int .i64 n, .int .i64 other, .int .u64 v] w (RetB true w) := by
  have HS1 := Lib.hid (fun u => share_c n u)
  have HS2 := Lib.hid (fun u => share_c other u)
  have HE : Hid (exC n other = (shI n == shI other || (decide (928 ≤ n) && decide (n < 960) && decide (928 ≤ other) && decide (other < 960)) || (decide (1 ≤ n) && decide (n ≤ 3) && shI other == 768) || (n == 771 && (shI other == 772 || shI other == 836)))) := rfl
  have HO := Lib.hid (fun S => one_c S n other v 0 5)
  generalize exC n other = ex at HE HO
  generalize shI n = sn at HS1 HE
  generalize shI other = so at HS2 HE
  go_enter Try.func10, Try.ntmps10
  go_wp2_with fail
  refine (awake_c _).mono ?_; rintro e w1 ⟨rfl, hb⟩
  have HB : Hid (Below w.heap.size w w1) := hb
  clear hb
  go_upto_region 3 with fail
  go_cut [60] (fun s wx => s = .bool ex ∧ wx = w1)
  case first =>
    clear HO
    go_wp2_with fail
    refine (HS1.out _).mono ?_; rintro e w2 ⟨rfl, h⟩; replace h := h.symm; subst h
    go_wp2_with fail
    refine (HS2.out _).mono ?_; rintro e w2 ⟨rfl, h⟩; replace h := h.symm; subst h
    by_cases h1 : sn = so
    · subst h1
      go_wp2_with fail
      go_meet
      case rel =>
        have hx : ex = true := by rw [HE.out]; simp
        exact ⟨by first | (rw [hx]; done) | (rw [hx]; rfl), rfl⟩
    · have h1' : (sn == so) = false := by rw [beq_eq_false_iff_ne]; exact h1
      clear h1
      by_cases a1 : 928 ≤ n
      · have b1 : 1 ≤ n := by omega
        have b2 : ¬ n ≤ 3 := by omega
        by_cases a2 : n < 960
        · by_cases a3 : 928 ≤ other
          · by_cases a4 : other < 960
            · go_wp2_with fail
              go_meet
              case rel =>
                have hx : ex = true := by rw [HE.out]; simp [h1', a1, a2, a3, a4] <;> (first | omega | (intros; omega) | (refine ⟨?_, ?_⟩ <;> intros <;> omega))
                exact ⟨by first | (rw [hx]; done) | (rw [hx]; rfl) | (rw [hx]; simp; omega), rfl⟩
            · have c1' : (n == 771) = false := by rw [beq_eq_false_iff_ne]; omega
              go_wp2_with fail
              go_meet
              case rel =>
                have hx : ex = false := by rw [HE.out]; simp [h1', a1, a2, a3, a4, b1, b2, c1'] <;> (first | omega | (intros; omega) | (refine ⟨?_, ?_⟩ <;> intros <;> omega))
                exact ⟨by first | (rw [hx]; done) | (rw [hx]; rfl) | (rw [hx]; simp; omega), rfl⟩
          · have c1' : (n == 771) = false := by rw [beq_eq_false_iff_ne]; omega
            go_wp2_with fail
            go_meet
            case rel =>
              have hx : ex = false := by rw [HE.out]; simp [h1', a1, a2, a3, b1, b2, c1'] <;> (first | omega | (intros; omega) | (refine ⟨?_, ?_⟩ <;> intros <;> omega))
              exact ⟨by first | (rw [hx]; done) | (rw [hx]; rfl) | (rw [hx]; simp; omega), rfl⟩
        · have c1' : (n == 771) = false := by rw [beq_eq_false_iff_ne]; omega
          go_wp2_with fail
          go_meet
          case rel =>
            have hx : ex = false := by rw [HE.out]; simp [h1', a1, a2, b1, b2, c1'] <;> (first | omega | (intros; omega) | (refine ⟨?_, ?_⟩ <;> intros <;> omega))
            exact ⟨by first | (rw [hx]; done) | (rw [hx]; rfl) | (rw [hx]; simp; omega), rfl⟩
      · by_cases b1 : 1 ≤ n
        · by_cases b2 : n ≤ 3
          · by_cases g2 : so = 768
            · subst g2
              go_wp2_with fail
              refine (HS2.out _).mono ?_; rintro e w2 ⟨rfl, h⟩; replace h := h.symm; subst h
              go_wp2_with fail
              go_meet
              case rel =>
                have hx : ex = true := by rw [HE.out]; simp [h1', a1, b1, b2] <;> (first | omega | (intros; omega) | (refine ⟨?_, ?_⟩ <;> intros <;> omega))
                exact ⟨by first | (rw [hx]; done) | (rw [hx]; rfl) | (rw [hx]; simp; omega), rfl⟩
            · have g2' : (so == 768) = false := by rw [beq_eq_false_iff_ne]; exact g2
              have c1' : (n == 771) = false := by rw [beq_eq_false_iff_ne]; omega
              go_wp2_with fail
              refine (HS2.out _).mono ?_; rintro e w2 ⟨rfl, h⟩; replace h := h.symm; subst h
              go_wp2_with fail
              go_meet
              case rel =>
                have hx : ex = false := by rw [HE.out]; simp [h1', a1, b1, b2, g2', c1'] <;> (first | omega | (intros; omega) | (refine ⟨?_, ?_⟩ <;> intros <;> omega))
                exact ⟨by first | (rw [hx]; done) | (rw [hx]; rfl) | (rw [hx]; simp; omega), rfl⟩
          · by_cases c1 : n = 771
            · subst c1
              clear a1 b1 b2
              by_cases c2 : so = 772
              · subst c2
                go_wp2_with fail
                refine (HS2.out _).mono ?_; rintro e w2 ⟨rfl, h⟩; replace h := h.symm; subst h
                go_wp2_with fail
                go_meet
                case rel =>
                  have hx : ex = true := by rw [HE.out]; simp [h1'] <;> (first | omega | (intros; omega) | (refine ⟨?_, ?_⟩ <;> intros <;> omega))
                  exact ⟨by first | (rw [hx]; done) | (rw [hx]; rfl) | (rw [hx]; simp; omega), rfl⟩
              · have c2' : (so == 772) = false := by rw [beq_eq_false_iff_ne]; exact c2
                by_cases c3 : so = 836
                · subst c3
                  go_wp2_with fail
                  refine (HS2.out _).mono ?_; rintro e w2 ⟨rfl, h⟩; replace h := h.symm; subst h
                  go_wp2_with fail
                  refine (HS2.out _).mono ?_; rintro e w2 ⟨rfl, h⟩; replace h := h.symm; subst h
                  go_wp2_with fail
                  go_meet
                  case rel =>
                    have hx : ex = true := by rw [HE.out]; simp [h1'] <;> (first | omega | (intros; omega) | (refine ⟨?_, ?_⟩ <;> intros <;> omega))
                    exact ⟨by first | (rw [hx]; done) | (rw [hx]; rfl) | (rw [hx]; simp; omega), rfl⟩
                · have c3' : (so == 836) = false := by rw [beq_eq_false_iff_ne]; exact c3
                  go_wp2_with fail
                  refine (HS2.out _).mono ?_; rintro e w2 ⟨rfl, h⟩; replace h := h.symm; subst h
                  go_wp2_with fail
                  refine (HS2.out _).mono ?_; rintro e w2 ⟨rfl, h⟩; replace h := h.symm; subst h
                  go_wp2_with fail
                  go_meet
                  case rel =>
                    have hx : ex = false := by rw [HE.out]; simp [h1', c2', c3'] <;> (first | omega | (intros; omega) | (refine ⟨?_, ?_⟩ <;> intros <;> omega))
                    exact ⟨by first | (rw [hx]; done) | (rw [hx]; rfl) | (rw [hx]; simp; omega), rfl⟩
            · have c1' : (n == 771) = false := by rw [beq_eq_false_iff_ne]; exact c1
              go_wp2_with fail
              go_meet
              case rel =>
                have hx : ex = false := by rw [HE.out]; simp [h1', a1, b1, b2, c1'] <;> (first | omega | (intros; omega) | (refine ⟨?_, ?_⟩ <;> intros <;> omega))
                exact ⟨by first | (rw [hx]; done) | (rw [hx]; rfl) | (rw [hx]; simp; omega), rfl⟩
        · have c1' : (n == 771) = false := by rw [beq_eq_false_iff_ne]; omega
          go_wp2_with fail
          go_meet
          case rel =>
            have hx : ex = false := by rw [HE.out]; simp [h1', a1, b1, c1'] <;> (first | omega | (intros; omega) | (refine ⟨?_, ?_⟩ <;> intros <;> omega))
            exact ⟨by first | (rw [hx]; done) | (rw [hx]; rfl) | (rw [hx]; simp; omega), rfl⟩
  case rest =>
    obtain ⟨rfl, rfl⟩ := hcut
    clear HS1 HS2 HE
    cases ex with
    | true =>
      go_wp2_with fail
      go_ret
      exact retB_mk rfl HB.out
    | false =>
      replace HO := Lib.hid (fun S => HO.out S rfl)
      go_wp2_with fail
      refine (held_c p b o N cap K V wc (h.out.below HB.out)).mono ?_; rintro e w2 ⟨S, HL, rfl, hb⟩
      replace HB := Lib.hid (below_step hb HB.out HB.out.size)
      clear hb h
      go_upto_region 6 with (refine wpList_store_rowP (Had w w2.heap.size S) rfl 26 _ _ rfl w2.heap.size (cs S) rfl rfl 26 (cs Z38) (row_new _ _ _) (infoS _) rfl (oneS _) (had_start S HB.out) ?_; rintro wd HD; replace HD := Lib.hid HD)
      generalize w2.heap.size = cb at HD ⊢
      clear HB w2
      have HG := Lib.hid (gs_of_had HD.out)
      clear HD
      have HWr : Hid (∀ u, Calls Try.prog 18 #[.agg (cs S), .int .i64 n, .int .u64 (v : Nat)] u (RetS (wrF S n v) u)) := fun u => write_c S n v HL.out.ok hv.out u
      have HR1 : Hid (∀ u, Calls Try.prog 14 #[.agg (cs S), .int .i64 other, .int .u64 0, .int .u64 5] u (RetU (rdF S other 0 5) u)) := fun u => read_c S other 0 5 HL.out.ok (by show _ < _; decide) u
      have HR2 : Hid (∀ u, Calls Try.prog 14 #[.agg (cs (wrF S n v)), .int .i64 other, .int .u64 0, .int .u64 5] u (RetU (rdF (wrF S n v) other 0 5) u)) := fun u => read_c (wrF S n v) other 0 5 (wr_ok HL.out.ok n v hv.out) (by show _ < _; decide) u
      rw [HO.out S] at HR2
      clear HO HL hv
      generalize rdF S other 0 5 = x at HR1 HR2
      generalize wrF S n v = T at HWr HR2
      go_wp2_with (refine wpList_load_row rfl 26 _ rfl cb rfl 26 (cs S) (0, 0) _ (HG.out.row cb S (by simp)) Try.underlying26 rfl (infoS _) ?_)
      refine (HWr.out _).mono ?_; rintro e w3 ⟨rfl, hb⟩
      replace HG := Lib.hid (HG.out.below hb)
      clear hb HWr
      go_upto_region 7 with (refine wpList_store_rowP (Gs w [(w3.heap.size, T), (cb, S)]) rfl 26 _ _ rfl w3.heap.size (cs T) rfl rfl 26 (cs Z38) (row_new _ _ _) (infoS _) rfl (oneS _) (HG.out.alloc.set HG.out.lt) ?_; rintro wq HQ; replace HQ := Lib.hid HQ)
      have RC := Lib.hid (HQ.out.row cb S (by simp))
      have RD := Lib.hid (HQ.out.row w3.heap.size T (by simp))
      simp only [Act.put]
      have q1 := fun dd os => q_u (w := wq) (dd := dd) (os := os) (HR1.out _)
      have q2 := fun dd os => q_u (w := wq) (dd := dd) (os := os) (HR2.out _)
      refine wp_region_quiet_below (by kernel_rfl) (by kernel_rfl) ?_
      repeat (first
        | go_big_quiet_skip
        | (go_big_quiet_want; first
            | (refine quiet_load_row 26 _ rfl cb rfl 26 (cs S) _ RC.out Try.underlying26 rfl (infoS _) ?_; simp only [Act.put, List.setIfInBounds_toArray, List.set_cons_succ, List.set_cons_zero]; go_big_quiet_on)
            | (refine quiet_load_row 26 _ rfl w3.heap.size rfl 26 (cs T) _ RD.out Try.underlying26 rfl (infoS _) ?_; simp only [Act.put, List.setIfInBounds_toArray, List.set_cons_succ, List.set_cons_zero]; go_big_quiet_on)
            | (go_big_quiet_op; go_big_quiet_on)))
      (go_big_quiet_want; go_big_quiet_op; go_big_quiet_call ((go_at_call 14; exact q1 _ _)))
      repeat (first
        | go_big_quiet_skip
        | (go_big_quiet_want; first
            | (refine quiet_load_row 26 _ rfl cb rfl 26 (cs S) _ RC.out Try.underlying26 rfl (infoS _) ?_; simp only [Act.put, List.setIfInBounds_toArray, List.set_cons_succ, List.set_cons_zero]; go_big_quiet_on)
            | (refine quiet_load_row 26 _ rfl w3.heap.size rfl 26 (cs T) _ RD.out Try.underlying26 rfl (infoS _) ?_; simp only [Act.put, List.setIfInBounds_toArray, List.set_cons_succ, List.set_cons_zero]; go_big_quiet_on)
            | (go_big_quiet_op; go_big_quiet_on)))
      (go_big_quiet_want; go_big_quiet_op; go_big_quiet_call ((go_at_call 14; exact q2 _ _)))
      repeat (first
        | go_big_quiet_skip
        | (go_big_quiet_want; first
            | (refine quiet_load_row 26 _ rfl cb rfl 26 (cs S) _ RC.out Try.underlying26 rfl (infoS _) ?_; simp only [Act.put, List.setIfInBounds_toArray, List.set_cons_succ, List.set_cons_zero]; go_big_quiet_on)
            | (refine quiet_load_row 26 _ rfl w3.heap.size rfl 26 (cs T) _ RD.out Try.underlying26 rfl (infoS _) ?_; simp only [Act.put, List.setIfInBounds_toArray, List.set_cons_succ, List.set_cons_zero]; go_big_quiet_on)
            | (go_big_quiet_op; go_big_quiet_on)))
      refine wpQuiet_nil ?_
      intro _ hw'
      obtain ⟨⟨dq, osq⟩, hw''⟩ := hw'
      subst hw''
      replace HQ := Lib.hid (HQ.out.below (below_regrown wq dq osq))
      generalize grow (redrawn wq dq) osq = w5 at HQ ⊢
      clear q1 q2 RC RD
      go_wp2_with fail
      go_ret
      exact retB_mk (by first | rfl | simp) HQ.out.1
end Go.Proofs.Ytmlbobjbkbcabaa
