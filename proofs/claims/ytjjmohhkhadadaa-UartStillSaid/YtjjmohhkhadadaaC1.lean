/- The walk of UartRoom. -/
import Derived.Test.YtjjmohhkhadadaaF1
namespace Go.Proofs.Ytjjmohhkhadadaa
open Go.ChangeShapes Go.WideShapes Go.ChangeAt Go.RowKit
set_option linter.unusedVariables false
set_option linter.unusedSimpArgs false
def rowL (R : Nat → Nat) (n : Nat) : List Nat := (List.range (min n 16)).map R
def roomF (R : Nat → Nat) (n : Nat) : Ur := ⟨rowL R n, decide (16 < n), 0, 0, []⟩
def leftF (R : Nat → Nat) (n k : Nat) : Ur := ⟨(rowL R n).drop k, false, 0, 0, []⟩
theorem rowL_len (R : Nat → Nat) (n : Nat) : (rowL R n).length = min n 16 := by simp [rowL]
theorem room_give (R : Nat → Nat) (k : Nat) : giveF (roomF R k) (R k) = roomF R (k + 1) := by
  have hl : (roomF R k).q.length = min k 16 := rowL_len R k
  unfold giveF
  by_cases h : k < 16
  · rw [if_neg (by rw [hl]; omega)]
    show (⟨rowL R k ++ [R k], decide (16 < k), 0, 0, []⟩ : Ur) = ⟨rowL R (k + 1), decide (16 < k + 1), 0, 0, []⟩
    rw [decide_eq_false (by omega : ¬ 16 < k), decide_eq_false (by omega : ¬ 16 < k + 1)]
    unfold rowL
    rw [Nat.min_eq_left (by omega : k ≤ 16), Nat.min_eq_left (by omega : k + 1 ≤ 16), List.range_succ, List.map_append]; rfl
  · rw [if_pos (by rw [hl]; omega)]
    show (⟨rowL R k, true, 0, 0, []⟩ : Ur) = ⟨rowL R (k + 1), decide (16 < k + 1), 0, 0, []⟩
    rw [decide_eq_true (by omega : 16 < k + 1)]
    unfold rowL
    rw [Nat.min_eq_right (by omega : 16 ≤ k), Nat.min_eq_right (by omega : 16 ≤ k + 1)]
theorem left_0 (R : Nat → Nat) (n : Nat) : nextK 6 (roomF R n) = leftF R n 0 := rfl
theorem left_6 (R : Nat → Nat) (n k : Nat) : nextK 6 (leftF R n k) = leftF R n k := rfl
theorem left_1 (R : Nat → Nat) (n k : Nat) : nextK 1 (leftF R n k) = leftF R n (k + 1) := by
  show (⟨((rowL R n).drop k).tail, false, 0, 0, []⟩ : Ur) = ⟨(rowL R n).drop (k + 1), false, 0, 0, []⟩
  rw [drop_tail]
theorem left_val (R : Nat → Nat) (n k : Nat) (h : k < n ∧ k < 16) : valK 1 (leftF R n k) = R k := by
  show ((rowL R n).drop k).headD 0 = R k
  rw [headD_drop]
  have : k < min n 16 := by omega
  simp [rowL, this]
theorem left_no (R : Nat → Nat) (n k : Nat) (h : ¬ (k < n ∧ k < 16)) : valK 1 (leftF R n k) = 0 := by
  show ((rowL R n).drop k).headD 0 = 0
  rw [headD_drop]
  have : ¬ k < min n 16 := by omega
  simp [rowL, this]
theorem left_st (R : Nat → Nat) (n k : Nat) : valK 6 (leftF R n k) = 96 + b2n (decide (0 < min n 16 - k)) := by
  show 96 + b2n (decide (0 < ((rowL R n).drop k).length)) + 2 * b2n false = _
  rw [List.length_drop, rowL_len]; rfl
theorem room_st (R : Nat → Nat) (n : Nat) : valK 6 (roomF R n) = 96 + b2n (decide (0 < min n 16)) + 2 * b2n (decide (16 < n)) := by
  show 96 + b2n (decide (0 < (rowL R n).length)) + 2 * b2n (decide (16 < n)) = _
  rw [rowL_len]
set_option maxRecDepth 100000 in
set_option maxHeartbeats 4000000 in
theorem room_core (w : World) (sa : Option Addr) (g o n cap : Nat) (R : Nat → Nat) (hsa : Hid (0 < n → sa = some ⟨g, o, none⟩ ∧ g < w.heap.size)) (hr : Hid (∀ i, i < n → w.cell? ⟨g, o + i, none⟩ = some (.int .u8 (R i : Nat)))) (hR : Hid (∀ i, R i < 256)) (hn : Hid (n ≤ 9223372036854775807)) :
    Calls Try.prog 5 #[.slice sa n cap] w (RetB true w) := by
  go_enter Try.func5, Try.ntmps5
  go_wp2_with fail
  refine (fixed_c w).mono ?_; rintro e w1 ⟨rfl, hb1⟩
  have HB := Lib.hid hb1; clear hb1
  go_wp2_with fail
  refine (newA (all_nil HB.out)).mono ?_; rintro e w2 ⟨b, rfl, h⟩
  have HA : Hid (All w [eU b (roomF R 0)] w2) := h; clear h HB
  go_wp2_with fail
  go_loopw [4] (fun iv wr => ∃ k : Nat, k ≤ n ∧ iv = .int .i64 k ∧ Hid (All w [eU b (roomF R k)] wr)) (fun iv _ => n - (intOf iv).toNat)
  case atStart => exact ⟨0, Nat.zero_le _, rfl, HA⟩
  case round =>
    clear HA
    obtain ⟨k, hk, rfl, HA⟩ := hrel
    by_cases hlt : k < n
    · have hlt' : (k : Int) < n := by omega
      obtain ⟨rfl, hbl⟩ := hsa.out (by omega)
      have c0 : wr.cell? ⟨g, o + k, none⟩ = some (.int .u8 (R k : Nat)) := by rw [HA.out.out.cell (p := ⟨g, o + k, none⟩) hbl]; exact hr.out k hlt
      have kk1 : IntKind.i64.wrap ((k : Int) + 1) = (k : Int) + 1 := by have := hn.out; exact IntWalk.i64_in _ (by omega)
      obtain ⟨x, hx⟩ : ∃ x, R k = x := ⟨_, rfl⟩
      rw [hx] at c0
      have HX : Hid (giveF (roomF R k) x = roomF R (k + 1)) := by show _ = _; rw [← hx]; exact room_give R k
      have X8 : Hid (x < 256) := by show _ < _; rw [← hx]; exact hR.out k
      clear hx hbl
      go_wp2_with fail
      refine (giveA HA.out 0 rfl X8).mono ?_; rintro e w3 ⟨rfl, h⟩
      replace HA : Hid (All w [eU b (roomF R (k + 1))] w3) := by rw [← HX.out]; exact h
      clear h
      go_wp2_with fail
      go_roundw
      case rel => exact ⟨k + 1, by omega, by go_num, HA⟩
      case measure => simp [intOf]; omega
    · obtain rfl : k = n := by omega
      rename_i hh
      clear hk
      rcases (show k = 0 ∨ (1 ≤ k ∧ k ≤ 16) ∨ 17 ≤ k by omega) with hc | hc | hc
      · subst hc
        have V1 : Hid (valK (kd 5 1) (roomF R 0) = 96) := by show valK 6 _ = _; rw [room_st]; rfl
        have V2 : Hid (valK (kd 5 1) (leftF R 0 0) = 96) := by show valK 6 _ = _; rw [left_st]; rfl
        have V3 : Hid (valK (kd 5 1) (leftF R 0 20) = 96) := by show valK 6 _ = _; rw [left_st]; rfl
        have b0 : bits .and .u64 48 1 = 0 := by decide
        have b1 : bits .and .u64 96 1 = 0 := by decide
        have b2 : bits .andNot .u64 96 1 = 96 := by decide
        go_wp2_with fail
        refine (readA HA.out 0 rfl 5 1).mono ?_; rintro e w3 ⟨rfl, h⟩
        replace HA : Hid (All w [eU b (leftF R 0 0)] w3) := h; clear h
        rw [V1.out, show okK (kd 5 1) = true from by decide]
        go_wp2_with fail
        refine (readA HA.out 0 rfl 5 1).mono ?_; rintro e w4 ⟨rfl, h⟩
        replace HA : Hid (All w [eU b (leftF R 0 0)] w4) := h; clear h
        rw [V2.out, show okK (kd 5 1) = true from by decide]
        go_wp2_with fail
        go_loopw [11] (fun iv wr => ∃ j : Nat, j ≤ 20 ∧ iv = .int .i64 j ∧ Hid (All w [eU b (leftF R 0 j)] wr)) (fun iv _ => 20 - (intOf iv).toNat)
        case atStart => exact ⟨0, Nat.zero_le _, rfl, HA⟩
        case round =>
          clear HA
          obtain ⟨j, hj, rfl, HA⟩ := hrel
          by_cases hlt : j < 20
          · have hlt' : (j : Int) < 20 := by omega
            have HV : Hid (valK (kd 0 1) (leftF R 0 j) = 0) := left_no R 0 j (by omega)
            go_wp2_with fail
            refine (readA HA.out 0 rfl 0 1).mono ?_; rintro e w5 ⟨rfl, h⟩
            replace HA : Hid (All w [eU b (leftF R 0 (j + 1))] w5) := by have h2 : All w [eU b (nextK 1 (leftF R 0 j))] w5 := h; rw [left_1] at h2; exact h2
            clear h
            rw [HV.out, show okK (kd 0 1) = true from by decide]
            go_wp2_with fail
            go_roundw
            case rel => exact ⟨j + 1, by omega, by go_num, HA⟩
            case measure => simp [intOf]; omega
          · obtain rfl : j = 20 := by omega
            go_wp2_with fail
            refine (readA HA.out 0 rfl 5 1).mono ?_; rintro e w6 ⟨rfl, h⟩
            replace HA : Hid (All w [eU b (leftF R 0 20)] w6) := h; clear h
            rw [V3.out, show okK (kd 5 1) = true from by decide]
            go_wp2_with fail
            go_ret
            exact retB_mk rfl HA.out.out
      · have h0 : decide ((0 : Int) < k) = true := decide_eq_true (by omega)
        have h0' : decide (0 < k) = true := decide_eq_true (by omega)
        have h16 : decide ((16 : Int) < k) = false := decide_eq_false (by omega)
        have h16' : decide (16 < k) = false := decide_eq_false (by omega)
        have HK : Hid (1 ≤ k ∧ k ≤ 16) := hc
        have V1 : Hid (valK (kd 5 1) (roomF R k) = 97) := by show valK 6 _ = _; rw [room_st]; rw [decide_eq_true (by omega : 0 < min k 16), decide_eq_false (by omega : ¬ 16 < k)]; rfl
        have V2 : Hid (valK (kd 5 1) (leftF R k 0) = 97) := by show valK 6 _ = _; rw [left_st]; rw [decide_eq_true (by omega : 0 < min k 16 - 0)]; rfl
        have V3 : Hid (valK (kd 5 1) (leftF R k 20) = 96) := by show valK 6 _ = _; rw [left_st]; rw [decide_eq_false (by omega : ¬ 0 < min k 16 - 20)]; rfl
        clear hc
        have b0 : bits .and .u64 48 1 = 0 := by decide
        have b1 : bits .and .u64 97 1 = 1 := by decide
        have b2 : bits .andNot .u64 97 1 = 96 := by decide
        go_wp2_with fail
        refine (readA HA.out 0 rfl 5 1).mono ?_; rintro e w3 ⟨rfl, h⟩
        replace HA : Hid (All w [eU b (leftF R k 0)] w3) := h; clear h
        rw [V1.out, show okK (kd 5 1) = true from by decide]
        go_wp2_with fail
        refine (readA HA.out 0 rfl 5 1).mono ?_; rintro e w4 ⟨rfl, h⟩
        replace HA : Hid (All w [eU b (leftF R k 0)] w4) := h; clear h
        rw [V2.out, show okK (kd 5 1) = true from by decide]
        go_wp2_with fail
        go_loopw [11] (fun iv wr => ∃ j : Nat, j ≤ 20 ∧ iv = .int .i64 j ∧ Hid (All w [eU b (leftF R k j)] wr)) (fun iv _ => 20 - (intOf iv).toNat)
        case atStart => exact ⟨0, Nat.zero_le _, rfl, HA⟩
        case round =>
          clear HA
          obtain ⟨j, hj, rfl, HA⟩ := hrel
          by_cases hlt : j < 20
          · have hlt' : (j : Int) < 20 := by omega
            by_cases hin : j < k ∧ j < 16
            · have j1 : (j : Int) < k := by omega
              have j2 : (j : Int) < 16 := by omega
              have HV : Hid (valK (kd 0 1) (leftF R k j) = R j) := left_val R k j (by omega)
              obtain ⟨rfl, hbl⟩ := hsa.out (by omega)
              have HCX : Hid (∀ w9, Below w.heap.size w w9 → w9.cell? ⟨g, o + j, none⟩ = some (.int .u8 (R j : Nat))) := fun w9 h9 => by rw [h9.cell (p := ⟨g, o + j, none⟩) hbl]; exact hr.out j (by omega)
              have X8 := hR.out j
              obtain ⟨x, hx⟩ : ∃ x, R j = x := ⟨_, rfl⟩
              rw [hx] at HV HCX X8
              have ex : IntKind.u64.wrap (x : Int) = x := by rw [IntKind.wrap_u64]; omega
              replace X8 := Lib.hid X8
              clear hx hbl
              go_wp2_with fail
              refine (readA HA.out 0 rfl 0 1).mono ?_; rintro e w5 ⟨rfl, h⟩
              replace HA : Hid (All w [eU b (leftF R k (j + 1))] w5) := by have h2 : All w [eU b (nextK 1 (leftF R k j))] w5 := h; rw [left_1] at h2; exact h2
              clear h
              rw [HV.out, show okK (kd 0 1) = true from by decide]
              have cx := HCX.out w5 HA.out.out
              go_wp2_with fail
              go_roundw
              case rel => exact ⟨j + 1, by omega, by go_num, HA⟩
              case measure => simp [intOf]; omega
            · have j1 : ¬ (j : Int) < k := by have := HK.out; omega
              have HV : Hid (valK (kd 0 1) (leftF R k j) = 0) := left_no R k j (by have := HK.out; omega)
              go_wp2_with fail
              refine (readA HA.out 0 rfl 0 1).mono ?_; rintro e w5 ⟨rfl, h⟩
              replace HA : Hid (All w [eU b (leftF R k (j + 1))] w5) := by have h2 : All w [eU b (nextK 1 (leftF R k j))] w5 := h; rw [left_1] at h2; exact h2
              clear h
              rw [HV.out, show okK (kd 0 1) = true from by decide]
              go_wp2_with fail
              go_roundw
              case rel => exact ⟨j + 1, by omega, by go_num, HA⟩
              case measure => simp [intOf]; omega
          · obtain rfl : j = 20 := by omega
            go_wp2_with fail
            refine (readA HA.out 0 rfl 5 1).mono ?_; rintro e w6 ⟨rfl, h⟩
            replace HA : Hid (All w [eU b (leftF R k 20)] w6) := h; clear h
            rw [V3.out, show okK (kd 5 1) = true from by decide]
            go_wp2_with fail
            go_ret
            exact retB_mk rfl HA.out.out
      · have h0 : decide ((0 : Int) < k) = true := decide_eq_true (by omega)
        have h0' : decide (0 < k) = true := decide_eq_true (by omega)
        have h16 : decide ((16 : Int) < k) = true := decide_eq_true (by omega)
        have h16' : decide (16 < k) = true := decide_eq_true (by omega)
        have HK : Hid (17 ≤ k) := hc
        have V1 : Hid (valK (kd 5 1) (roomF R k) = 99) := by show valK 6 _ = _; rw [room_st]; rw [decide_eq_true (by omega : 0 < min k 16), decide_eq_true (by omega : 16 < k)]; rfl
        have V2 : Hid (valK (kd 5 1) (leftF R k 0) = 97) := by show valK 6 _ = _; rw [left_st]; rw [decide_eq_true (by omega : 0 < min k 16 - 0)]; rfl
        have V3 : Hid (valK (kd 5 1) (leftF R k 20) = 96) := by show valK 6 _ = _; rw [left_st]; rw [decide_eq_false (by omega : ¬ 0 < min k 16 - 20)]; rfl
        clear hc
        have b0 : bits .and .u64 48 1 = 0 := by decide
        have b1 : bits .and .u64 49 1 = 1 := by decide
        have b2 : bits .and .u64 97 1 = 1 := by decide
        have b3 : bits .and .u64 99 1 = 1 := by decide
        have b4 : bits .andNot .u64 97 1 = 96 := by decide
        go_wp2_with fail
        refine (readA HA.out 0 rfl 5 1).mono ?_; rintro e w3 ⟨rfl, h⟩
        replace HA : Hid (All w [eU b (leftF R k 0)] w3) := h; clear h
        rw [V1.out, show okK (kd 5 1) = true from by decide]
        go_wp2_with fail
        refine (readA HA.out 0 rfl 5 1).mono ?_; rintro e w4 ⟨rfl, h⟩
        replace HA : Hid (All w [eU b (leftF R k 0)] w4) := h; clear h
        rw [V2.out, show okK (kd 5 1) = true from by decide]
        go_wp2_with fail
        go_loopw [11] (fun iv wr => ∃ j : Nat, j ≤ 20 ∧ iv = .int .i64 j ∧ Hid (All w [eU b (leftF R k j)] wr)) (fun iv _ => 20 - (intOf iv).toNat)
        case atStart => exact ⟨0, Nat.zero_le _, rfl, HA⟩
        case round =>
          clear HA
          obtain ⟨j, hj, rfl, HA⟩ := hrel
          by_cases hlt : j < 20
          · have hlt' : (j : Int) < 20 := by omega
            by_cases hin : j < k ∧ j < 16
            · have j1 : (j : Int) < k := by omega
              have j2 : (j : Int) < 16 := by omega
              have HV : Hid (valK (kd 0 1) (leftF R k j) = R j) := left_val R k j (by omega)
              obtain ⟨rfl, hbl⟩ := hsa.out (by omega)
              have HCX : Hid (∀ w9, Below w.heap.size w w9 → w9.cell? ⟨g, o + j, none⟩ = some (.int .u8 (R j : Nat))) := fun w9 h9 => by rw [h9.cell (p := ⟨g, o + j, none⟩) hbl]; exact hr.out j (by omega)
              have X8 := hR.out j
              obtain ⟨x, hx⟩ : ∃ x, R j = x := ⟨_, rfl⟩
              rw [hx] at HV HCX X8
              have ex : IntKind.u64.wrap (x : Int) = x := by rw [IntKind.wrap_u64]; omega
              replace X8 := Lib.hid X8
              clear hx hbl
              go_wp2_with fail
              refine (readA HA.out 0 rfl 0 1).mono ?_; rintro e w5 ⟨rfl, h⟩
              replace HA : Hid (All w [eU b (leftF R k (j + 1))] w5) := by have h2 : All w [eU b (nextK 1 (leftF R k j))] w5 := h; rw [left_1] at h2; exact h2
              clear h
              rw [HV.out, show okK (kd 0 1) = true from by decide]
              have cx := HCX.out w5 HA.out.out
              go_wp2_with fail
              go_roundw
              case rel => exact ⟨j + 1, by omega, by go_num, HA⟩
              case measure => simp [intOf]; omega
            · by_cases hjk : j < k
              · have j1 : (j : Int) < k := by have := HK.out; omega
                have j2 : ¬ (j : Int) < 16 := by have := HK.out; omega
                have HV : Hid (valK (kd 0 1) (leftF R k j) = 0) := left_no R k j (by have := HK.out; omega)
                go_wp2_with fail
                refine (readA HA.out 0 rfl 0 1).mono ?_; rintro e w5 ⟨rfl, h⟩
                replace HA : Hid (All w [eU b (leftF R k (j + 1))] w5) := by have h2 : All w [eU b (nextK 1 (leftF R k j))] w5 := h; rw [left_1] at h2; exact h2
                clear h
                rw [HV.out, show okK (kd 0 1) = true from by decide]
                go_wp2_with fail
                go_roundw
                case rel => exact ⟨j + 1, by omega, by go_num, HA⟩
                case measure => simp [intOf]; omega
              · have j1 : ¬ (j : Int) < k := by have := HK.out; omega
                have HV : Hid (valK (kd 0 1) (leftF R k j) = 0) := left_no R k j (by have := HK.out; omega)
                go_wp2_with fail
                refine (readA HA.out 0 rfl 0 1).mono ?_; rintro e w5 ⟨rfl, h⟩
                replace HA : Hid (All w [eU b (leftF R k (j + 1))] w5) := by have h2 : All w [eU b (nextK 1 (leftF R k j))] w5 := h; rw [left_1] at h2; exact h2
                clear h
                rw [HV.out, show okK (kd 0 1) = true from by decide]
                go_wp2_with fail
                go_roundw
                case rel => exact ⟨j + 1, by omega, by go_num, HA⟩
                case measure => simp [intOf]; omega
          · obtain rfl : j = 20 := by omega
            go_wp2_with fail
            refine (readA HA.out 0 rfl 5 1).mono ?_; rintro e w6 ⟨rfl, h⟩
            replace HA : Hid (All w [eU b (leftF R k 20)] w6) := h; clear h
            rw [V3.out, show okK (kd 5 1) = true from by decide]
            go_wp2_with fail
            go_ret
            exact retB_mk rfl HA.out.out
end Go.Proofs.Ytjjmohhkhadadaa
