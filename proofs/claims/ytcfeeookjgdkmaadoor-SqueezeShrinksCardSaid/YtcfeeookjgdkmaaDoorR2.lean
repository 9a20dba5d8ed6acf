/- The document's own answers: immediate. -/
import Derived.Test.YtcfeeookjgdkmaaDoorR1
namespace Go.Proofs.YtcfeeookjgdkmaaDoor
open Go.ChangeShapes Go.WideShapes Go.ChangeAt Go.RowKit
set_option linter.unusedVariables false
set_option linter.unusedSimpArgs false
theorem sum_step (s b t : Nat) : ((s : Int) + (b : Int) * 2 ^ t % 4294967296) % 4294967296 = (((s + b * 2 ^ t) % 4294967296 : Nat) : Int) := by
  rw [pow_cast, ← Int.natCast_mul]
  generalize b * 2 ^ t = X
  omega
theorem sumD_lt (h : Nat) (F T : List Nat) (k : Nat) : sumD h F T k < 4294967296 := by
  cases k with
  | zero => show 0 < _; decide
  | succ k => exact Nat.mod_lt _ (by decide)
theorem extD_lt (g t n k : Nat) (hn : n < 4294967296) : extD g t n k < 4294967296 := by
  cases k with
  | zero => exact hn
  | succ k => exact Nat.mod_lt _ (by decide)
theorem topD_lt (T : List Nat) (n : Nat) (h : ∀ k, k < n → T.getD k 0 < 32) : ∀ k, k ≤ n → topD T k < 32
  | 0, _ => by show 0 < 32; decide
  | k + 1, hk => by
    have h1 := topD_lt T n h k (by omega)
    have h2 := h k (by omega)
    show (if topD T k < T.getD k 0 then T.getD k 0 else topD T k) < 32
    split <;> omega
theorem top_yes {T : List Nat} {k : Nat} (h : topD T k < T.getD k 0) : topD T (k + 1) = T.getD k 0 := if_pos h
theorem top_no {T : List Nat} {k : Nat} (h : ¬ topD T k < T.getD k 0) : topD T (k + 1) = topD T k := if_neg h
set_option maxRecDepth 100000 in
set_option maxHeartbeats 1000000 in
theorem immediate_c (h : Nat) (hh : Hid (h < 65536)) (F T : List Nat) (n : Nat) (hn : n ≤ 100) (hF : Hid (F.length = n)) (hT : Hid (T.length = n)) (bF : Hid (∀ k, k < n → F.getD k 0 < 16)) (bT : Hid (∀ k, k < n → T.getD k 0 < 32))
    (gF gT cF cT : Nat) (sg : Bool) (w : World) (NF : Hid (NumsN w gF F)) (NT : Hid (NumsN w gT T)) :
    Calls Tryd.prog 25 #[.int .u16 h, .slice (some ⟨gF, 0, none⟩) n cF, .slice (some ⟨gT, 0, none⟩) n cT, .bool sg] w (RetU (immD h F T sg) w) := by
  go_enter Tryd.func25, Tryd.ntmps25
  go_wp2_with fail
  go_loopw [9, 10, 11] (fun o t i wr => ∃ k : Nat, k ≤ n ∧ o = .int .u32 (sumD h F T k : Nat) ∧ t = .int .i64 (topD T k : Nat) ∧ i = .int .i64 k ∧ Below w.heap.size w wr) (fun _ _ i _ => n - (intOf i).toNat)
  case atStart => exact ⟨0, by omega, rfl, rfl, rfl, (by repeat (first | (with_reducible first | exact Below.refl _ _ | assumption | exact Nat.le_refl _ | refine Below.drew ?_ | refine Below.alloc ?_ ?_ _ | refine Below.setCell ?_ ?_ _ | refine le_alloc ?_ | refine le_set ?_ | refine le_drew ?_ | refine below_step (by assumption) ?_ ?_ | refine le_below (by assumption) ?_) | (dsimp only; omega)))⟩
  case round =>
    obtain ⟨k, hk, rfl, rfl, rfl, hbw⟩ := hrel
    by_cases hlt : k < n
    · have hlt' : (k : Int) < (n : Int) := by omega
      have NF1 := nums_below NF.out hbw (Nat.le_refl _)
      have NT1 := nums_below NT.out hbw (Nat.le_refl _)
      have c1 := NF1.2 k (by rw [hF.out]; exact hlt)
      have c2 := NT1.2 k (by rw [hT.out]; exact hlt)
      have hf16 := bF.out k hlt
      have ht32 := bT.out k hlt
      have HS : Hid (sumD h F T (k + 1) = (sumD h F T k + h / 2 ^ (F.getD k 0) % 2 * 2 ^ (T.getD k 0)) % 4294967296) := rfl
      have HY := Lib.hid (fun hc => top_yes (T := T) (k := k) hc)
      have HN := Lib.hid (fun hc => top_no (T := T) (k := k) hc)
      generalize sumD h F T k = s at *
      generalize topD T k = t0 at *
      generalize F.getD k 0 = f at *
      generalize T.getD k 0 = t at *
      obtain ⟨b, hb⟩ : ∃ b, b = h / 2 ^ f % 2 := ⟨_, rfl⟩
      have hbit := Lib.hid (fun v => bit_c h f hh hf16 v)
      rw [← hb] at HS hbit
      have hy32 : (t : Int) ≤ 32 := by omega
      clear NF1 NT1 hb hf16
      go_wp2_with fail
      go_quiet (exact Calls.quiet_of_same ((hbit.out _).mono fun _ _ h => ⟨h.1, h.2.symm⟩))
      have hbq := below_drewN hbw nq
      have d1 : (wr.drewN nq).cell? ⟨gF, k, none⟩ = some (.int .i64 f) := c1
      have d2 : (wr.drewN nq).cell? ⟨gT, k, none⟩ = some (.int .i64 t) := c2
      generalize wr.drewN nq = wq at *
      by_cases hc : t0 < t
      · have hc' : (t0 : Int) < (t : Int) := by omega
        have HT2 : Hid (topD T (k + 1) = t) := HY.out hc
        clear HY HN hc
        go_wp2_with fail
        go_roundw
        case rel => exact ⟨k + 1, by omega, by congr 1; first | (rw [HS.out]; exact sum_step s b t) | (rw [HS.out, ← sum_step]), by rw [HT2.out], by go_num, hbq⟩
        case measure => simp [intOf]; omega
      · have hc' : ¬ (t0 : Int) < (t : Int) := by omega
        have HT2 : Hid (topD T (k + 1) = t0) := HN.out hc
        clear HY HN hc
        go_wp2_with fail
        go_roundw
        case rel => exact ⟨k + 1, by omega, by congr 1; first | (rw [HS.out]; exact sum_step s b t) | (rw [HS.out, ← sum_step]), by rw [HT2.out], by go_num, hbq⟩
        case measure => simp [intOf]; omega
    · obtain rfl : k = n := by omega
      have hlt' : ¬ (k : Int) < (k : Int) := by omega
      have hs := sumD_lt h F T k
      have ht := topD_lt T k bT.out k (Nat.le_refl _)
      have HI : Hid (immD h F T sg = if sg then extD (sumD h F T k / 2 ^ topD T k % 2) (topD T k + 1) (sumD h F T k) (31 - topD T k) else sumD h F T k) := by show _ = _; unfold immD; rw [hT.out]
      generalize sumD h F T k = s at *
      generalize topD T k = t at *
      cases sg with
      | false =>
        go_wp2_with fail
        go_ret
        exact retU_mk (by rw [HI.out]; rfl) hbw
      | true =>
        have ht32 : (t : Int) ≤ 32 := by omega
        have hx : s / 2 ^ t < 4294967296 := Nat.lt_of_le_of_lt (Nat.div_le_self _ _) hs
        have e1 : (s : Int) / 2 ^ t = ((s / 2 ^ t : Nat) : Int) := by rw [pow_cast]; simp
        have e2 : bits .and .u32 ((s : Int) / 2 ^ t) 1 = ((s / 2 ^ t % 2 : Nat) : Int) := by rw [e1]; exact u32_low (s / 2 ^ t) 1 hx (by decide)
        obtain ⟨g, hg⟩ : ∃ g, g = s / 2 ^ t % 2 := ⟨_, rfl⟩
        rw [← hg] at e2 HI
        have E1 := Lib.hid e1
        clear hg hx e1 NF NT hF hT bF bT
        have ht2 : t < 32 := ht
        have m1 : wrap64 ((t : Int) + 1) = (t : Int) + 1 := IntWalk.wrap64_in _ (by omega)
        go_wp2_with fail
        go_loopw [9, 13] (fun o i wr => ∃ j : Nat, j ≤ 31 - t ∧ o = .int .u32 (extD g (t + 1) s j : Nat) ∧ i = .int .i64 ((t + 1 + j : Nat) : Int) ∧ Below w.heap.size w wr) (fun _ i _ => 32 - (intOf i).toNat)
        case atStart => exact ⟨0, by omega, rfl, by congr 1, hbw⟩
        case round =>
          clear hbw
          obtain ⟨j, hj, rfl, rfl, hbw⟩ := hrel
          by_cases hlt2 : j < 31 - t
          · have HS : Hid (extD g (t + 1) s (j + 1) = (extD g (t + 1) s j + g * 2 ^ (t + 1 + j)) % 4294967296) := rfl
            generalize extD g (t + 1) s j = s1 at *
            obtain ⟨m, hm⟩ : ∃ m, m = t + 1 + j := ⟨_, rfl⟩
            have HM := Lib.hid hm
            rw [← hm] at HS ⊢
            have hm32 : (m : Int) < 32 := by omega
            have hm32' : (m : Int) ≤ 32 := by omega
            have m2 : wrap64 ((m : Int) + 1) = (m : Int) + 1 := IntWalk.wrap64_in _ (by omega)
            clear hm m1
            go_wp2_with fail
            go_roundw
            case rel => exact ⟨j + 1, by omega, by congr 1; first | (rw [HS.out]; exact sum_step s1 g m) | (rw [HS.out, ← sum_step]), by congr 1; have := HM.out; omega, hbw⟩
            case measure => simp [intOf]; omega
          · obtain rfl : j = 31 - t := by omega
            have hm32 : ¬ ((t + 1 + (31 - t) : Nat) : Int) < 32 := by omega
            go_wp2_with fail
            go_ret
            exact retU_mk (by rw [HI.out]; rfl) hbw
end Go.Proofs.YtcfeeookjgdkmaaDoor
