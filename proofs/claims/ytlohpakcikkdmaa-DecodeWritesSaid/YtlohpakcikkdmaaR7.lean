/- The contract of the reference's letter. -/
import Derived.Test.YtlohpakcikkdmaaR6
namespace Go.Proofs.Ytlohpakcikkdmaa
open Go.ChangeShapes Go.WideShapes Go.ChangeAt Go.RowKit
set_option linter.unusedVariables false
set_option linter.unusedSimpArgs false
def letterQ (s : ByteArray) : Nat := if hasQ s 73 then 73 else if hasQ s 83 then 83 else if hasQ s 66 then 66 else if hasQ s 85 then 85 else if hasQ s 74 then 74 else 0
def RetC (n : Nat) (W : World) (e : Ending) (w' : World) : Prop := e = .returned (.int .u8 n) ∧ Below W.heap.size W w'
def NoLetter (s : ByteArray) (k : Nat) : Prop := (0 < k → hasQ s 73 = false) ∧ (1 < k → hasQ s 83 = false) ∧ (2 < k → hasQ s 66 = false) ∧ (3 < k → hasQ s 85 = false) ∧ (4 < k → hasQ s 74 = false)
set_option maxRecDepth 100000 in
set_option maxHeartbeats 2000000 in
theorem letter_c (s : ByteArray) (hs : s.size ≤ 100) (w : World) : Calls Try.prog 34 #[.string s] w (RetC (letterQ s) w) := by
  go_enter Try.func34, Try.ntmps34
  go_wp2_with fail
  go_loopw [4] (fun i wr => ∃ k : Nat, k ≤ 5 ∧ i = .int .i64 k ∧ Hid (NoLetter s k) ∧ Below w.heap.size w wr) (fun i _ => 5 - (intOf i).toNat)
  case atStart => exact ⟨0, by omega, rfl, ⟨fun h => absurd h (by decide), fun h => absurd h (by decide), fun h => absurd h (by decide), fun h => absurd h (by decide), fun h => absurd h (by decide)⟩, Below.refl _ _⟩
  case round =>
    obtain ⟨k, hk, rfl, hN, hbw⟩ := hrel
    have hk6 : k = 0 ∨ k = 1 ∨ k = 2 ∨ k = 3 ∨ k = 4 ∨ k = 5 := by omega
    clear hk
    rcases hk6 with rfl | rfl | rfl | rfl | rfl | rfl
    · cases hv : hasQ s 73 with
      | true =>
        have HV : Hid (letterQ s = 73) := by show _ = _; unfold letterQ; rw [hv]; rfl
        have HH := Lib.hid hv
        clear hv
        go_wp2_with fail
        refine (has_c s hs 73 (by show _ < _; decide) _).mono ?_; rintro e w4 ⟨rfl, hb4⟩
        rw [HH.out]
        go_wp2_with fail
        go_ret
        exact ⟨by rw [HV.out]; rfl, below_step hb4 hbw hbw.size⟩
      | false =>
        have HN : Hid (NoLetter s 1) := ⟨fun _ => hv, fun h => absurd h (by decide), fun h => absurd h (by decide), fun h => absurd h (by decide), fun h => absurd h (by decide)⟩
        have HH := Lib.hid hv
        clear hv
        go_wp2_with fail
        refine (has_c s hs 73 (by show _ < _; decide) _).mono ?_; rintro e w4 ⟨rfl, hb4⟩
        rw [HH.out]
        go_wp2_with fail
        go_roundw
        case rel => exact ⟨1, by omega, by go_num, HN, below_step hb4 hbw hbw.size⟩
        case measure => simp [intOf]
    · cases hv : hasQ s 83 with
      | true =>
        have HV : Hid (letterQ s = 83) := by show _ = _; unfold letterQ; rw [hN.out.1 (by decide), hv]; rfl
        have HH := Lib.hid hv
        clear hv
        go_wp2_with fail
        refine (has_c s hs 83 (by show _ < _; decide) _).mono ?_; rintro e w4 ⟨rfl, hb4⟩
        rw [HH.out]
        go_wp2_with fail
        go_ret
        exact ⟨by rw [HV.out]; rfl, below_step hb4 hbw hbw.size⟩
      | false =>
        have HN : Hid (NoLetter s 2) := ⟨fun h => hN.out.1 (by decide), fun _ => hv, fun h => absurd h (by decide), fun h => absurd h (by decide), fun h => absurd h (by decide)⟩
        have HH := Lib.hid hv
        clear hv
        go_wp2_with fail
        refine (has_c s hs 83 (by show _ < _; decide) _).mono ?_; rintro e w4 ⟨rfl, hb4⟩
        rw [HH.out]
        go_wp2_with fail
        go_roundw
        case rel => exact ⟨2, by omega, by go_num, HN, below_step hb4 hbw hbw.size⟩
        case measure => simp [intOf]
    · cases hv : hasQ s 66 with
      | true =>
        have HV : Hid (letterQ s = 66) := by show _ = _; unfold letterQ; rw [hN.out.1 (by decide), hN.out.2.1 (by decide), hv]; rfl
        have HH := Lib.hid hv
        clear hv
        go_wp2_with fail
        refine (has_c s hs 66 (by show _ < _; decide) _).mono ?_; rintro e w4 ⟨rfl, hb4⟩
        rw [HH.out]
        go_wp2_with fail
        go_ret
        exact ⟨by rw [HV.out]; rfl, below_step hb4 hbw hbw.size⟩
      | false =>
        have HN : Hid (NoLetter s 3) := ⟨fun h => hN.out.1 (by decide), fun h => hN.out.2.1 (by decide), fun _ => hv, fun h => absurd h (by decide), fun h => absurd h (by decide)⟩
        have HH := Lib.hid hv
        clear hv
        go_wp2_with fail
        refine (has_c s hs 66 (by show _ < _; decide) _).mono ?_; rintro e w4 ⟨rfl, hb4⟩
        rw [HH.out]
        go_wp2_with fail
        go_roundw
        case rel => exact ⟨3, by omega, by go_num, HN, below_step hb4 hbw hbw.size⟩
        case measure => simp [intOf]
    · cases hv : hasQ s 85 with
      | true =>
        have HV : Hid (letterQ s = 85) := by show _ = _; unfold letterQ; rw [hN.out.1 (by decide), hN.out.2.1 (by decide), hN.out.2.2.1 (by decide), hv]; rfl
        have HH := Lib.hid hv
        clear hv
        go_wp2_with fail
        refine (has_c s hs 85 (by show _ < _; decide) _).mono ?_; rintro e w4 ⟨rfl, hb4⟩
        rw [HH.out]
        go_wp2_with fail
        go_ret
        exact ⟨by rw [HV.out]; rfl, below_step hb4 hbw hbw.size⟩
      | false =>
        have HN : Hid (NoLetter s 4) := ⟨fun h => hN.out.1 (by decide), fun h => hN.out.2.1 (by decide), fun h => hN.out.2.2.1 (by decide), fun _ => hv, fun h => absurd h (by decide)⟩
        have HH := Lib.hid hv
        clear hv
        go_wp2_with fail
        refine (has_c s hs 85 (by show _ < _; decide) _).mono ?_; rintro e w4 ⟨rfl, hb4⟩
        rw [HH.out]
        go_wp2_with fail
        go_roundw
        case rel => exact ⟨4, by omega, by go_num, HN, below_step hb4 hbw hbw.size⟩
        case measure => simp [intOf]
    · cases hv : hasQ s 74 with
      | true =>
        have HV : Hid (letterQ s = 74) := by show _ = _; unfold letterQ; rw [hN.out.1 (by decide), hN.out.2.1 (by decide), hN.out.2.2.1 (by decide), hN.out.2.2.2.1 (by decide), hv]; rfl
        have HH := Lib.hid hv
        clear hv
        go_wp2_with fail
        refine (has_c s hs 74 (by show _ < _; decide) _).mono ?_; rintro e w4 ⟨rfl, hb4⟩
        rw [HH.out]
        go_wp2_with fail
        go_ret
        exact ⟨by rw [HV.out]; rfl, below_step hb4 hbw hbw.size⟩
      | false =>
        have HN : Hid (NoLetter s 5) := ⟨fun h => hN.out.1 (by decide), fun h => hN.out.2.1 (by decide), fun h => hN.out.2.2.1 (by decide), fun h => hN.out.2.2.2.1 (by decide), fun _ => hv⟩
        have HH := Lib.hid hv
        clear hv
        go_wp2_with fail
        refine (has_c s hs 74 (by show _ < _; decide) _).mono ?_; rintro e w4 ⟨rfl, hb4⟩
        rw [HH.out]
        go_wp2_with fail
        go_roundw
        case rel => exact ⟨5, by omega, by go_num, HN, below_step hb4 hbw hbw.size⟩
        case measure => simp [intOf]
    · have HV : Hid (letterQ s = 0) := by
        show _ = _; unfold letterQ; rw [hN.out.1 (by decide), hN.out.2.1 (by decide), hN.out.2.2.1 (by decide), hN.out.2.2.2.1 (by decide), hN.out.2.2.2.2 (by decide)]; rfl
      go_wp2_with fail
      go_ret
      exact ⟨by rw [HV.out]; rfl, hbw⟩
end Go.Proofs.Ytlohpakcikkdmaa
