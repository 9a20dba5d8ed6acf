/- The walk of UartStill: registers 4, 5, 6. -/
import Derived.Test.YtjjmohhkhadadaaC2
namespace Go.Proofs.Ytjjmohhkhadadaa
open Go.ChangeShapes Go.WideShapes Go.ChangeAt Go.RowKit
set_option linter.unusedVariables false
set_option linter.unusedSimpArgs false
set_option maxRecDepth 100000 in
set_option maxHeartbeats 4000000 in
theorem still_4 (w : World) (sa : Option Addr) (g o0 n cap : Nat) (R : Nat → Nat) (v : Nat) (hv : Hid (v < 18446744073709551616)) (hsa : Hid (0 < n → sa = some ⟨g, o0, none⟩ ∧ g < w.heap.size)) (hr : Hid (∀ i, i < n → w.cell? ⟨g, o0 + i, none⟩ = some (.int .u8 (R i : Nat)))) (hR : Hid (∀ i, R i < 256)) (hn : Hid (n ≤ 9223372036854775807)) :
    Calls Try.prog 6 #[.slice sa n cap, .int .u64 4, .int .i64 1, .int .u64 v] w (RetB true w) := by
  go_enter Try.func6, Try.ntmps6
  go_wp2_with fail
  refine (fixed_c w).mono ?_; rintro e w1 ⟨rfl, hb1⟩
  have HB := Lib.hid hb1; clear hb1
  go_wp2_with fail
  refine (newA (all_nil HB.out)).mono ?_; rintro e w2 ⟨b, rfl, h⟩
  have HA : Hid (All w [eU b (roomF R 0)] w2) := h; clear h HB
  go_wp2_with fail
  go_loopw [10] (fun iv wr => ∃ k : Nat, k ≤ n ∧ iv = .int .i64 k ∧ Hid (All w [eU b (roomF R k)] wr)) (fun iv _ => n - (intOf iv).toNat)
  case atStart => exact ⟨0, Nat.zero_le _, rfl, HA⟩
  case round =>
    clear HA
    obtain ⟨k, hk, rfl, HA⟩ := hrel
    by_cases hlt : k < n
    · have hlt' : (k : Int) < n := by omega
      obtain ⟨rfl, hbl⟩ := hsa.out (by omega)
      have c0 : wr.cell? ⟨g, o0 + k, none⟩ = some (.int .u8 (R k : Nat)) := by rw [HA.out.out.cell (p := ⟨g, o0 + k, none⟩) hbl]; exact hr.out k hlt
      have kk1 : IntKind.i64.wrap ((k : Int) + 1) = (k : Int) + 1 := by have := hn.out; exact IntWalk.i64_in _ (by omega)
      obtain ⟨x, hx⟩ : ∃ x, R k = x := ⟨_, rfl⟩
      rw [hx] at c0
      have HX : Hid (giveF (roomF R k) x = roomF R (k + 1)) := by show _ = _; rw [← hx]; exact room_give R k
      have X8 : Hid (x < 256) := by show _ < _; rw [← hx]; exact hR.out k
      clear hx hbl
      go_wp2_with fail
      refine (giveA HA.out 0 rfl X8).mono ?_; rintro e w3 ⟨rfl, h⟩
      replace HA : Hid (All w [eU b (roomF R (k + 1))] w3) := by rw [← HX.out]; exact h
      clear h
      go_wp2_with fail
      go_roundw
      case rel => exact ⟨k + 1, by omega, by go_num, HA⟩
      case measure => simp [intOf]; omega
    · obtain rfl : k = n := by omega
      clear hk
      go_wp2_with fail
      refine (writeA (v := 90) HA.out 0 rfl 7 1 (by show _ < _; decide) (by show ([] : List Nat).length < _; decide)).mono ?_; rintro e w3 ⟨rfl, h⟩
      replace HA : Hid (All w [eU b { roomF R k with scr := 90 }] w3) := h; clear h
      rw [show okK (kd 7 1) = true from by decide]
      go_wp2_with fail
      refine (writeA (v := 120) HA.out 0 rfl 0 1 (by show _ < _; decide) (by show ([] : List Nat).length < _; decide)).mono ?_; rintro e w4 ⟨rfl, h⟩
      replace HA : Hid (All w [eU b (stillF R k)] w4) := h; clear h
      rw [show okK (kd 0 1) = true from by decide]
      go_wp2_with fail
      refine (copyA HA.out 0 rfl).mono ?_; rintro e w5 ⟨o, rfl, h⟩
      replace HA : Hid (All w [eU b (stillF R k), eU o (stillF R k)] w5) := h; clear h
      go_wp2_with fail
      refine (writeA HA.out 0 rfl 4 1 hv (by show _ < _; show [120].length < _; decide)).mono ?_; rintro e w6 ⟨rfl, h⟩
      replace HA : Hid (All w [eU b (stillF R k), eU o (stillF R k)] w6) := by have h2 : All w [eU b (wrK (kd 4 1) (stillF R k) v), eU o (stillF R k)] w6 := h; rw [show wrK (kd 4 1) (stillF R k) v = stillF R k from wr_no _ _ _ (by decide)] at h2; exact h2
      clear h
      rw [show okK (kd 4 1) = true from by decide]
      go_wp2_with fail
      refine (readA HA.out 0 rfl 4 1).mono ?_; rintro e w7 ⟨rfl, h⟩
      have HS : Hid (Same w b o w7) := ⟨stillF R k, rfl, by have h2 : All w [eU b (nextK (kd 4 1) (stillF R k)), eU o (stillF R k)] w7 := h; rw [show nextK (kd 4 1) (stillF R k) = stillF R k from next_no _ _ (by decide)] at h2; exact h2⟩
      clear h HA
      generalize valK (kd 4 1) (stillF R k) = x
      rw [show okK (kd 4 1) = true from by decide]
      go_wp2_with fail
      go_loopw [16] (fun iv wr => ∃ i : Nat, i ≤ 18 ∧ iv = .int .i64 i ∧ Hid (Same w b o wr)) (fun iv _ => 18 - (intOf iv).toNat)
      case atStart => exact ⟨0, Nat.zero_le _, rfl, HS⟩
      case round =>
        clear HS
        obtain ⟨i, hi, rfl, HS⟩ := hrel
        by_cases hlt : i < 18
        · have hlt' : (i : Int) < 18 := by omega
          go_wp2_with fail
          go_loopw [17] (fun kv wr => ∃ k : Nat, k ≤ 9 ∧ kv = .int .u64 k ∧ Hid (Same w b o wr)) (fun kv _ => 9 - (intOf kv).toNat)
          case atStart => exact ⟨0, Nat.zero_le _, rfl, HS⟩
          case round =>
            clear HS
            obtain ⟨k, hk, rfl, HS⟩ := hrel
            by_cases hkt : k < 9
            · have hkt' : (k : Int) < 9 := by omega
              obtain ⟨U, hU, hA⟩ := HS.out
              have HU := Lib.hid hU; have HA := Lib.hid hA; clear hU hA
              obtain ⟨x, hx⟩ : ∃ x, valK (kd k 1) U = x := ⟨_, rfl⟩
              obtain ⟨t, ht⟩ : ∃ t, okK (kd k 1) = t := ⟨_, rfl⟩
              have RA := fun w9 (h : All w [eU b U, eU o U] w9) => readA h 0 rfl k 1
              have RB := fun w9 (h : All w [eU b (nextK (kd k 1) U), eU o U] w9) => readA h 1 rfl k 1
              rw [hx, ht] at RA RB
              have HRA := Lib.hid RA; have HRB := Lib.hid RB
              clear RA RB hx ht
              go_wp2_with fail
              refine (HRA.out _ HA.out).mono ?_; rintro e w5 ⟨rfl, h⟩
              have HA1 : Hid (All w [eU b (nextK (kd k 1) U), eU o U] w5) := h; clear h
              go_wp2_with fail
              refine (HRB.out _ HA1.out).mono ?_; rintro e w6 ⟨rfl, h⟩
              have HS6 : Hid (Same w b o w6) := ⟨nextK (kd k 1) U, by rw [next_sent]; exact HU.out, h⟩; clear h
              go_wp2_with fail
              go_roundw
              case rel => exact ⟨k + 1, by omega, by go_num, HS6⟩
              case measure => simp [intOf]; omega
            · obtain rfl : k = 9 := by omega
              go_wp2_with fail
              go_roundw
              case rel => exact ⟨i + 1, by omega, by go_num, HS⟩
              case measure => simp [intOf]; omega
        · obtain rfl : i = 18 := by omega
          obtain ⟨U, hU, hA⟩ := HS.out
          have HA := Lib.hid hA
          have HL : Hid (U.sent.length < 70368744177664) := by show _ < _; rw [hU]; decide
          have HU := Lib.hid hU; clear hU hA
          obtain ⟨t, ht⟩ : ∃ t, upF U = t := ⟨_, rfl⟩
          have UA := fun w9 (h : All w [eU b U, eU o U] w9) => upA h 0 rfl
          have UB := fun w9 (h : All w [eU b U, eU o U] w9) => upA h 1 rfl
          rw [ht] at UA UB
          have HUA := Lib.hid UA; have HUB := Lib.hid UB
          clear UA UB ht
          go_wp2_with fail
          refine (sentA HA.out 0 rfl HL).mono ?_; rintro e w7 ⟨a1, n1, c1, g1, rfl, s1, s2, hb⟩
          rw [HU.out] at s1
          have hcv : (convert 35 9 (.slice a1 n1 c1)).run Try.prog w7 = .ok (.string ⟨#[120]⟩) w7 := conv_b s1
          replace HA := Lib.hid (HA.out.below hb); clear s1 s2 hb
          go_wp2_with fail
          refine (HUA.out _ HA.out).mono ?_; rintro e w8 ⟨rfl, h⟩
          subst h
          go_wp2_with fail
          refine (HUB.out _ HA.out).mono ?_; rintro e w9 ⟨rfl, h⟩
          subst h
          go_wp2_with fail
          go_ret
          exact retB_mk (by first | rfl | simp) HA.out.out
set_option maxRecDepth 100000 in
set_option maxHeartbeats 4000000 in
theorem still_5 (w : World) (sa : Option Addr) (g o0 n cap : Nat) (R : Nat → Nat) (v : Nat) (hv : Hid (v < 18446744073709551616)) (hsa : Hid (0 < n → sa = some ⟨g, o0, none⟩ ∧ g < w.heap.size)) (hr : Hid (∀ i, i < n → w.cell? ⟨g, o0 + i, none⟩ = some (.int .u8 (R i : Nat)))) (hR : Hid (∀ i, R i < 256)) (hn : Hid (n ≤ 9223372036854775807)) :
    Calls Try.prog 6 #[.slice sa n cap, .int .u64 5, .int .i64 1, .int .u64 v] w (RetB true w) := by
  go_enter Try.func6, Try.ntmps6
  go_wp2_with fail
  refine (fixed_c w).mono ?_; rintro e w1 ⟨rfl, hb1⟩
  have HB := Lib.hid hb1; clear hb1
  go_wp2_with fail
  refine (newA (all_nil HB.out)).mono ?_; rintro e w2 ⟨b, rfl, h⟩
  have HA : Hid (All w [eU b (roomF R 0)] w2) := h; clear h HB
  go_wp2_with fail
  go_loopw [10] (fun iv wr => ∃ k : Nat, k ≤ n ∧ iv = .int .i64 k ∧ Hid (All w [eU b (roomF R k)] wr)) (fun iv _ => n - (intOf iv).toNat)
  case atStart => exact ⟨0, Nat.zero_le _, rfl, HA⟩
  case round =>
    clear HA
    obtain ⟨k, hk, rfl, HA⟩ := hrel
    by_cases hlt : k < n
    · have hlt' : (k : Int) < n := by omega
      obtain ⟨rfl, hbl⟩ := hsa.out (by omega)
      have c0 : wr.cell? ⟨g, o0 + k, none⟩ = some (.int .u8 (R k : Nat)) := by rw [HA.out.out.cell (p := ⟨g, o0 + k, none⟩) hbl]; exact hr.out k hlt
      have kk1 : IntKind.i64.wrap ((k : Int) + 1) = (k : Int) + 1 := by have := hn.out; exact IntWalk.i64_in _ (by omega)
      obtain ⟨x, hx⟩ : ∃ x, R k = x := ⟨_, rfl⟩
      rw [hx] at c0
      have HX : Hid (giveF (roomF R k) x = roomF R (k + 1)) := by show _ = _; rw [← hx]; exact room_give R k
      have X8 : Hid (x < 256) := by show _ < _; rw [← hx]; exact hR.out k
      clear hx hbl
      go_wp2_with fail
      refine (giveA HA.out 0 rfl X8).mono ?_; rintro e w3 ⟨rfl, h⟩
      replace HA : Hid (All w [eU b (roomF R (k + 1))] w3) := by rw [← HX.out]; exact h
      clear h
      go_wp2_with fail
      go_roundw
      case rel => exact ⟨k + 1, by omega, by go_num, HA⟩
      case measure => simp [intOf]; omega
    · obtain rfl : k = n := by omega
      clear hk
      go_wp2_with fail
      refine (writeA (v := 90) HA.out 0 rfl 7 1 (by show _ < _; decide) (by show ([] : List Nat).length < _; decide)).mono ?_; rintro e w3 ⟨rfl, h⟩
      replace HA : Hid (All w [eU b { roomF R k with scr := 90 }] w3) := h; clear h
      rw [show okK (kd 7 1) = true from by decide]
      go_wp2_with fail
      refine (writeA (v := 120) HA.out 0 rfl 0 1 (by show _ < _; decide) (by show ([] : List Nat).length < _; decide)).mono ?_; rintro e w4 ⟨rfl, h⟩
      replace HA : Hid (All w [eU b (stillF R k)] w4) := h; clear h
      rw [show okK (kd 0 1) = true from by decide]
      go_wp2_with fail
      refine (copyA HA.out 0 rfl).mono ?_; rintro e w5 ⟨o, rfl, h⟩
      replace HA : Hid (All w [eU b (stillF R k), eU o (stillF R k)] w5) := h; clear h
      go_wp2_with fail
      refine (writeA HA.out 0 rfl 5 1 hv (by show _ < _; show [120].length < _; decide)).mono ?_; rintro e w6 ⟨rfl, h⟩
      replace HA : Hid (All w [eU b (stillF R k), eU o (stillF R k)] w6) := by have h2 : All w [eU b (wrK (kd 5 1) (stillF R k) v), eU o (stillF R k)] w6 := h; rw [show wrK (kd 5 1) (stillF R k) v = stillF R k from wr_no _ _ _ (by decide)] at h2; exact h2
      clear h
      rw [show okK (kd 5 1) = true from by decide]
      go_wp2_with fail
      refine (readA HA.out 0 rfl 5 1).mono ?_; rintro e w7 ⟨rfl, h⟩
      replace HA : Hid (All w [eU b (nextK 6 (stillF R k)), eU o (stillF R k)] w7) := h; clear h
      rw [show okK (kd 5 1) = true from by decide]
      generalize valK (kd 5 1) (stillF R k) = x
      go_wp2_with fail
      refine (readA HA.out 1 rfl 5 1).mono ?_; rintro e w8 ⟨rfl, h⟩
      have HS : Hid (Same w b o w8) := ⟨nextK 6 (stillF R k), rfl, h⟩; clear h HA
      rw [show okK (kd 5 1) = true from by decide]
      generalize valK (kd 5 1) (stillF R k) = x2
      go_wp2_with fail
      go_loopw [16] (fun iv wr => ∃ i : Nat, i ≤ 18 ∧ iv = .int .i64 i ∧ Hid (Same w b o wr)) (fun iv _ => 18 - (intOf iv).toNat)
      case atStart => exact ⟨0, Nat.zero_le _, rfl, HS⟩
      case round =>
        clear HS
        obtain ⟨i, hi, rfl, HS⟩ := hrel
        by_cases hlt : i < 18
        · have hlt' : (i : Int) < 18 := by omega
          go_wp2_with fail
          go_loopw [17] (fun kv wr => ∃ k : Nat, k ≤ 9 ∧ kv = .int .u64 k ∧ Hid (Same w b o wr)) (fun kv _ => 9 - (intOf kv).toNat)
          case atStart => exact ⟨0, Nat.zero_le _, rfl, HS⟩
          case round =>
            clear HS
            obtain ⟨k, hk, rfl, HS⟩ := hrel
            by_cases hkt : k < 9
            · have hkt' : (k : Int) < 9 := by omega
              obtain ⟨U, hU, hA⟩ := HS.out
              have HU := Lib.hid hU; have HA := Lib.hid hA; clear hU hA
              obtain ⟨x, hx⟩ : ∃ x, valK (kd k 1) U = x := ⟨_, rfl⟩
              obtain ⟨t, ht⟩ : ∃ t, okK (kd k 1) = t := ⟨_, rfl⟩
              have RA := fun w9 (h : All w [eU b U, eU o U] w9) => readA h 0 rfl k 1
              have RB := fun w9 (h : All w [eU b (nextK (kd k 1) U), eU o U] w9) => readA h 1 rfl k 1
              rw [hx, ht] at RA RB
              have HRA := Lib.hid RA; have HRB := Lib.hid RB
              clear RA RB hx ht
              go_wp2_with fail
              refine (HRA.out _ HA.out).mono ?_; rintro e w5 ⟨rfl, h⟩
              have HA1 : Hid (All w [eU b (nextK (kd k 1) U), eU o U] w5) := h; clear h
              go_wp2_with fail
              refine (HRB.out _ HA1.out).mono ?_; rintro e w6 ⟨rfl, h⟩
              have HS6 : Hid (Same w b o w6) := ⟨nextK (kd k 1) U, by rw [next_sent]; exact HU.out, h⟩; clear h
              go_wp2_with fail
              go_roundw
              case rel => exact ⟨k + 1, by omega, by go_num, HS6⟩
              case measure => simp [intOf]; omega
            · obtain rfl : k = 9 := by omega
              go_wp2_with fail
              go_roundw
              case rel => exact ⟨i + 1, by omega, by go_num, HS⟩
              case measure => simp [intOf]; omega
        · obtain rfl : i = 18 := by omega
          obtain ⟨U, hU, hA⟩ := HS.out
          have HA := Lib.hid hA
          have HL : Hid (U.sent.length < 70368744177664) := by show _ < _; rw [hU]; decide
          have HU := Lib.hid hU; clear hU hA
          obtain ⟨t, ht⟩ : ∃ t, upF U = t := ⟨_, rfl⟩
          have UA := fun w9 (h : All w [eU b U, eU o U] w9) => upA h 0 rfl
          have UB := fun w9 (h : All w [eU b U, eU o U] w9) => upA h 1 rfl
          rw [ht] at UA UB
          have HUA := Lib.hid UA; have HUB := Lib.hid UB
          clear UA UB ht
          go_wp2_with fail
          refine (sentA HA.out 0 rfl HL).mono ?_; rintro e w7 ⟨a1, n1, c1, g1, rfl, s1, s2, hb⟩
          rw [HU.out] at s1
          have hcv : (convert 35 9 (.slice a1 n1 c1)).run Try.prog w7 = .ok (.string ⟨#[120]⟩) w7 := conv_b s1
          replace HA := Lib.hid (HA.out.below hb); clear s1 s2 hb
          go_wp2_with fail
          refine (HUA.out _ HA.out).mono ?_; rintro e w8 ⟨rfl, h⟩
          subst h
          go_wp2_with fail
          refine (HUB.out _ HA.out).mono ?_; rintro e w9 ⟨rfl, h⟩
          subst h
          go_wp2_with fail
          go_ret
          exact retB_mk (by first | rfl | simp) HA.out.out
set_option maxRecDepth 100000 in
set_option maxHeartbeats 4000000 in
theorem still_6 (w : World) (sa : Option Addr) (g o0 n cap : Nat) (R : Nat → Nat) (v : Nat) (hv : Hid (v < 18446744073709551616)) (hsa : Hid (0 < n → sa = some ⟨g, o0, none⟩ ∧ g < w.heap.size)) (hr : Hid (∀ i, i < n → w.cell? ⟨g, o0 + i, none⟩ = some (.int .u8 (R i : Nat)))) (hR : Hid (∀ i, R i < 256)) (hn : Hid (n ≤ 9223372036854775807)) :
    Calls Try.prog 6 #[.slice sa n cap, .int .u64 6, .int .i64 1, .int .u64 v] w (RetB true w) := by
  go_enter Try.func6, Try.ntmps6
  go_wp2_with fail
  refine (fixed_c w).mono ?_; rintro e w1 ⟨rfl, hb1⟩
  have HB := Lib.hid hb1; clear hb1
  go_wp2_with fail
  refine (newA (all_nil HB.out)).mono ?_; rintro e w2 ⟨b, rfl, h⟩
  have HA : Hid (All w [eU b (roomF R 0)] w2) := h; clear h HB
  go_wp2_with fail
  go_loopw [10] (fun iv wr => ∃ k : Nat, k ≤ n ∧ iv = .int .i64 k ∧ Hid (All w [eU b (roomF R k)] wr)) (fun iv _ => n - (intOf iv).toNat)
  case atStart => exact ⟨0, Nat.zero_le _, rfl, HA⟩
  case round =>
    clear HA
    obtain ⟨k, hk, rfl, HA⟩ := hrel
    by_cases hlt : k < n
    · have hlt' : (k : Int) < n := by omega
      obtain ⟨rfl, hbl⟩ := hsa.out (by omega)
      have c0 : wr.cell? ⟨g, o0 + k, none⟩ = some (.int .u8 (R k : Nat)) := by rw [HA.out.out.cell (p := ⟨g, o0 + k, none⟩) hbl]; exact hr.out k hlt
      have kk1 : IntKind.i64.wrap ((k : Int) + 1) = (k : Int) + 1 := by have := hn.out; exact IntWalk.i64_in _ (by omega)
      obtain ⟨x, hx⟩ : ∃ x, R k = x := ⟨_, rfl⟩
      rw [hx] at c0
      have HX : Hid (giveF (roomF R k) x = roomF R (k + 1)) := by show _ = _; rw [← hx]; exact room_give R k
      have X8 : Hid (x < 256) := by show _ < _; rw [← hx]; exact hR.out k
      clear hx hbl
      go_wp2_with fail
      refine (giveA HA.out 0 rfl X8).mono ?_; rintro e w3 ⟨rfl, h⟩
      replace HA : Hid (All w [eU b (roomF R (k + 1))] w3) := by rw [← HX.out]; exact h
      clear h
      go_wp2_with fail
      go_roundw
      case rel => exact ⟨k + 1, by omega, by go_num, HA⟩
      case measure => simp [intOf]; omega
    · obtain rfl : k = n := by omega
      clear hk
      go_wp2_with fail
      refine (writeA (v := 90) HA.out 0 rfl 7 1 (by show _ < _; decide) (by show ([] : List Nat).length < _; decide)).mono ?_; rintro e w3 ⟨rfl, h⟩
      replace HA : Hid (All w [eU b { roomF R k with scr := 90 }] w3) := h; clear h
      rw [show okK (kd 7 1) = true from by decide]
      go_wp2_with fail
      refine (writeA (v := 120) HA.out 0 rfl 0 1 (by show _ < _; decide) (by show ([] : List Nat).length < _; decide)).mono ?_; rintro e w4 ⟨rfl, h⟩
      replace HA : Hid (All w [eU b (stillF R k)] w4) := h; clear h
      rw [show okK (kd 0 1) = true from by decide]
      go_wp2_with fail
      refine (copyA HA.out 0 rfl).mono ?_; rintro e w5 ⟨o, rfl, h⟩
      replace HA : Hid (All w [eU b (stillF R k), eU o (stillF R k)] w5) := h; clear h
      go_wp2_with fail
      refine (writeA HA.out 0 rfl 6 1 hv (by show _ < _; show [120].length < _; decide)).mono ?_; rintro e w6 ⟨rfl, h⟩
      replace HA : Hid (All w [eU b (stillF R k), eU o (stillF R k)] w6) := by have h2 : All w [eU b (wrK (kd 6 1) (stillF R k) v), eU o (stillF R k)] w6 := h; rw [show wrK (kd 6 1) (stillF R k) v = stillF R k from wr_no _ _ _ (by decide)] at h2; exact h2
      clear h
      rw [show okK (kd 6 1) = true from by decide]
      go_wp2_with fail
      refine (readA HA.out 0 rfl 6 1).mono ?_; rintro e w7 ⟨rfl, h⟩
      have HS : Hid (Same w b o w7) := ⟨stillF R k, rfl, by have h2 : All w [eU b (nextK (kd 6 1) (stillF R k)), eU o (stillF R k)] w7 := h; rw [show nextK (kd 6 1) (stillF R k) = stillF R k from next_no _ _ (by decide)] at h2; exact h2⟩
      clear h HA
      generalize valK (kd 6 1) (stillF R k) = x
      rw [show okK (kd 6 1) = true from by decide]
      go_wp2_with fail
      go_loopw [16] (fun iv wr => ∃ i : Nat, i ≤ 18 ∧ iv = .int .i64 i ∧ Hid (Same w b o wr)) (fun iv _ => 18 - (intOf iv).toNat)
      case atStart => exact ⟨0, Nat.zero_le _, rfl, HS⟩
      case round =>
        clear HS
        obtain ⟨i, hi, rfl, HS⟩ := hrel
        by_cases hlt : i < 18
        · have hlt' : (i : Int) < 18 := by omega
          go_wp2_with fail
          go_loopw [17] (fun kv wr => ∃ k : Nat, k ≤ 9 ∧ kv = .int .u64 k ∧ Hid (Same w b o wr)) (fun kv _ => 9 - (intOf kv).toNat)
          case atStart => exact ⟨0, Nat.zero_le _, rfl, HS⟩
          case round =>
            clear HS
            obtain ⟨k, hk, rfl, HS⟩ := hrel
            by_cases hkt : k < 9
            · have hkt' : (k : Int) < 9 := by omega
              obtain ⟨U, hU, hA⟩ := HS.out
              have HU := Lib.hid hU; have HA := Lib.hid hA; clear hU hA
              obtain ⟨x, hx⟩ : ∃ x, valK (kd k 1) U = x := ⟨_, rfl⟩
              obtain ⟨t, ht⟩ : ∃ t, okK (kd k 1) = t := ⟨_, rfl⟩
              have RA := fun w9 (h : All w [eU b U, eU o U] w9) => readA h 0 rfl k 1
              have RB := fun w9 (h : All w [eU b (nextK (kd k 1) U), eU o U] w9) => readA h 1 rfl k 1
              rw [hx, ht] at RA RB
              have HRA := Lib.hid RA; have HRB := Lib.hid RB
              clear RA RB hx ht
              go_wp2_with fail
              refine (HRA.out _ HA.out).mono ?_; rintro e w5 ⟨rfl, h⟩
              have HA1 : Hid (All w [eU b (nextK (kd k 1) U), eU o U] w5) := h; clear h
              go_wp2_with fail
              refine (HRB.out _ HA1.out).mono ?_; rintro e w6 ⟨rfl, h⟩
              have HS6 : Hid (Same w b o w6) := ⟨nextK (kd k 1) U, by rw [next_sent]; exact HU.out, h⟩; clear h
              go_wp2_with fail
              go_roundw
              case rel => exact ⟨k + 1, by omega, by go_num, HS6⟩
              case measure => simp [intOf]; omega
            · obtain rfl : k = 9 := by omega
              go_wp2_with fail
              go_roundw
              case rel => exact ⟨i + 1, by omega, by go_num, HS⟩
              case measure => simp [intOf]; omega
        · obtain rfl : i = 18 := by omega
          obtain ⟨U, hU, hA⟩ := HS.out
          have HA := Lib.hid hA
          have HL : Hid (U.sent.length < 70368744177664) := by show _ < _; rw [hU]; decide
          have HU := Lib.hid hU; clear hU hA
          obtain ⟨t, ht⟩ : ∃ t, upF U = t := ⟨_, rfl⟩
          have UA := fun w9 (h : All w [eU b U, eU o U] w9) => upA h 0 rfl
          have UB := fun w9 (h : All w [eU b U, eU o U] w9) => upA h 1 rfl
          rw [ht] at UA UB
          have HUA := Lib.hid UA; have HUB := Lib.hid UB
          clear UA UB ht
          go_wp2_with fail
          refine (sentA HA.out 0 rfl HL).mono ?_; rintro e w7 ⟨a1, n1, c1, g1, rfl, s1, s2, hb⟩
          rw [HU.out] at s1
          have hcv : (convert 35 9 (.slice a1 n1 c1)).run Try.prog w7 = .ok (.string ⟨#[120]⟩) w7 := conv_b s1
          replace HA := Lib.hid (HA.out.below hb); clear s1 s2 hb
          go_wp2_with fail
          refine (HUA.out _ HA.out).mono ?_; rintro e w8 ⟨rfl, h⟩
          subst h
          go_wp2_with fail
          refine (HUB.out _ HA.out).mono ?_; rintro e w9 ⟨rfl, h⟩
          subst h
          go_wp2_with fail
          go_ret
          exact retB_mk (by first | rfl | simp) HA.out.out
end Go.Proofs.Ytjjmohhkhadadaa
