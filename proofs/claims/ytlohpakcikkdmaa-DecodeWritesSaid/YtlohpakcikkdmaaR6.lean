/- The contracts of the reference's has and letter. -/
import Derived.Test.YtlohpakcikkdmaaR1
import Derived.Deep.LoopGhost
import Derived.Lib.Strings
namespace Go.Proofs.Ytlohpakcikkdmaa
open Go.ChangeShapes Go.WideShapes Go.ChangeAt Go.RowKit
set_option linter.unusedVariables false
set_option linter.unusedSimpArgs false
/-- Does a form have a letter? -/
def hasQ (s : ByteArray) (c : Nat) : Bool := s.data.toList.any (fun x => x.toNat == c)
theorem has_c (s : ByteArray) (hs : s.size ≤ 100) (c : Nat) (hc : Hid (c < 256)) (w : World) : Calls Try.prog 30 #[.string s, .int .u8 c] w (RetB (hasQ s c) w) := by
  go_enter Try.func30, Try.ntmps30
  go_wp2_with fail
  go_loopw [5] (fun i wr => ∃ k : Nat, k ≤ s.size ∧ i = .int .i64 k ∧ Hid (∀ x ∈ s.data.toList.take k, (x.toNat == c) = false) ∧ wr = w) (fun i _ => s.size - (intOf i).toNat)
  case atStart => exact ⟨0, by omega, rfl, fun x hx => by simp at hx, rfl⟩
  case round =>
    obtain ⟨k, hk, rfl, hN, rfl⟩ := hrel
    by_cases hlt : k < s.size
    · have hlt' : (k : Int) < (s.size : Int) := by omega
      obtain ⟨x, hx⟩ : ∃ x : UInt8, s[k]'hlt = x := ⟨_, rfl⟩
      have hg : s.data.toList[k]? = some x := by rw [← hx, List.getElem?_eq_getElem (by rw [Array.length_toList]; exact hlt)]; rfl
      have HG := Lib.hid hg; clear hg
      cases hv : (x.toNat == c) with
      | true =>
        have e : ((x.toNat : Int) == (c : Int)) = true := by rw [beq_iff_eq] at hv ⊢; exact_mod_cast hv
        have HV : Hid (hasQ s c = true) := by
          show _ = _; unfold hasQ; rw [List.any_eq_true]; exact ⟨x, List.mem_of_getElem? HG.out, hv⟩
        clear hv
        go_wp2_with fail
        go_ret
        exact retB_mk (by rw [HV.out]) (Below.refl _ _)
      | false =>
        have e : ((x.toNat : Int) == (c : Int)) = false := by rw [beq_eq_false_iff_ne] at hv ⊢; intro h; exact hv (by exact_mod_cast h)
        have HF := Lib.hid hv
        clear hv
        go_wp2_with fail
        go_roundw
        case rel =>
          refine ⟨k + 1, by omega, by go_num, ?_, (by first | rfl | trivial)⟩
          intro y hy
          rw [List.take_add_one, HG.out] at hy
          simp only [Option.toList_some, List.mem_append, List.mem_singleton] at hy
          rcases hy with hy | rfl
          · exact hN.out y hy
          · exact HF.out
        case measure => simp [intOf]; omega
    · obtain rfl : k = s.size := by omega
      have hlt' : ¬ ((s.size : Int) < (s.size : Int)) := by omega
      have HV : Hid (hasQ s c = false) := by
        show _ = _; unfold hasQ; rw [List.any_eq_false]; intro x hx
        have := hN.out x (by rw [List.take_of_length_le (by rw [← Lib.size_eq]; exact Nat.le_refl _)]; exact hx)
        rw [this]; decide
      go_wp2_with fail
      go_ret
      exact retB_mk (by rw [HV.out]) (Below.refl _ _)
end Go.Proofs.Ytlohpakcikkdmaa
