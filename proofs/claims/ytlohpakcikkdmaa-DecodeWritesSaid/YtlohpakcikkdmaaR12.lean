/- The reference's immediate, whole. -/
import Derived.Test.YtlohpakcikkdmaaR11
namespace Go.Proofs.Ytlohpakcikkdmaa
open Go.ChangeShapes Go.WideShapes Go.ChangeAt Go.RowKit
set_option linter.unusedVariables false
set_option linter.unusedSimpArgs false
def immL (l b : Nat) : Int := if l = 73 then imq73 b else if l = 83 then imq83 b else if l = 66 then imq66 b else if l = 85 then imq85 b else if l = 74 then imq74 b else 0
def immQ (s : ByteArray) (b : Nat) : Int := endQ s b (immL (letterQ s) b)
theorem letterQ_cases (s : ByteArray) : letterQ s = 73 ∨ letterQ s = 83 ∨ letterQ s = 66 ∨ letterQ s = 85 ∨ letterQ s = 74 ∨ letterQ s = 0 := by
  unfold letterQ
  cases hasQ s 73 <;> cases hasQ s 83 <;> cases hasQ s 66 <;> cases hasQ s 85 <;> cases hasQ s 74 <;> simp
theorem immr_c (s : ByteArray) (hs : s.size ≤ 100) (wo : Bool) (b : Nat) (hb : b < 4294967296) (w : World) : Calls Try.prog 31 #[.string s, .bool wo, .int .u32 b] w (RetI (immQ s b) w) := by
  unfold immQ
  rcases letterQ_cases s with h | h | h | h | h | h
  · have g := immr_73 s hs wo b hb (Lib.hid h) w; rw [h]; exact g
  · have g := immr_83 s hs wo b hb (Lib.hid h) w; rw [h]; exact g
  · have g := immr_66 s hs wo b hb (Lib.hid h) w; rw [h]; exact g
  · have g := immr_85 s hs wo b hb (Lib.hid h) w; rw [h]; exact g
  · have g := immr_74 s hs wo b hb (Lib.hid h) w; rw [h]; exact g
  · have g := immr_0 s hs wo b hb (Lib.hid h) w; rw [h]; exact g
end Go.Proofs.Ytlohpakcikkdmaa
