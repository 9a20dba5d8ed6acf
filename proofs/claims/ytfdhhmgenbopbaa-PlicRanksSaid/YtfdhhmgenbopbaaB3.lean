/- best. -/
import Derived.Test.YtfdhhmgenbopbaaB2
import Derived.Deep.LoopGhost
namespace Go.Proofs.Ytfdhhmgenbopbaa
open Go.ChangeShapes Go.WideShapes Go.ChangeAt Go.RowKit
set_option linter.unusedVariables false
set_option linter.unusedSimpArgs false
def RetI (n : Nat) (W : World) (e : Ending) (w' : World) : Prop := e = .returned (.int .i64 n) ∧ Below W.heap.size W w'
theorem row_hit (S : St) (c r g k : Nat) (h : hitB S c r k = true) : rowF S c r (g + 1) k = some k := by
  show (bif hitB S c r k then some k else rowF S c r g (k + 1)) = some k
  rw [h]; rfl
theorem row_miss (S : St) (c r g k : Nat) (h : hitB S c r k = false) : rowF S c r (g + 1) k = rowF S c r g (k + 1) := by
  show (bif hitB S c r k then some k else rowF S c r g (k + 1)) = _
  rw [h]; rfl
theorem best_hit (S : St) (c r n : Nat) (h : rowF S c (r + 1) 9 0 = some n) : bestF S c (r + 1) = n := by
  show orF _ _ = _
  rw [h]; rfl
theorem best_miss (S : St) (c r : Nat) (h : rowF S c (r + 1) 9 0 = none) : bestF S c (r + 1) = bestF S c r := by
  show orF _ _ = _
  rw [h]; rfl
theorem hit_of (S : St) (c r n : Nat) (x y z : Bool) (h1 : (S.pr n == r) = x) (h2 : (S.st n == 1) = y) (h3 : takeB S c n = z) : hitB S c r n = (x && (y && z)) := by
  unfold hitB; rw [h1, h2, h3]
def OkS (S : St) : Prop := (∀ n, S.pr n < 8) ∧ (∀ c, S.en c < 512) ∧ (∀ c, S.th c < 8) ∧ ∀ n, S.st n < 3
set_option maxRecDepth 100000 in
set_option maxHeartbeats 2000000 in
theorem best_c (b c : Nat) (S : St) (w : World) (hP : Hid (IsP w b S)) (hO : Hid (OkS S)) (hc : Hid (c < 2)) : Calls Try.prog 16 #[.pointer (some ⟨b, 0, none⟩), .int .i64 c] w (RetI (best S c) w) := by
  have c2 : (c : Int) < 2 := by have := hc.out; omega
  go_enter Try.func16, Try.ntmps16
  go_wp2
  go_step3
  go_wp2
  go_step3
  go_wp2
  go_loopg [5, 6] 7 (fun g s5 s6 wx => g ≤ 7 ∧ s5 = .int .i64 0 ∧ s6 = .int .u64 g ∧ Hid (bestF S c 7 = bestF S c g) ∧ Hid (Below w.heap.size w wx))
  case atStart => exact ⟨Nat.le_refl _, rfl, rfl, rfl, Below.refl _ _⟩
  case round =>
    obtain ⟨hg, rfl, rfl, HB, HW⟩ := hrel
    cases gk with
    | zero =>
      go_wp2_with fail
      try rw [Exit.noGoto_ret]
      go_ret
      exact ⟨by rw [show best S c = 0 from HB.out]; rfl, HW.out⟩
    | succ r =>
      have hg' : (r : Int) ≤ 6 := by omega
      have hgt : (0 : Int) < ((r + 1 : Nat) : Int) := by omega
      obtain ⟨wo, rfl⟩ : ∃ wo : World, wo = wr := ⟨_, rfl⟩
      have hPo : Hid (IsP wo b S) := hP.out.below HW.out
      go_wp2_with (refine wpList_load_at rfl 35 _ rfl b 0 rfl (srcP S) _ (src_load hPo.out) Try.underlying35 rfl info35 ?_)
      go_loopg [5, 17] 9 (fun g s5 s17 wx => ∃ k : Nat, k + g = 9 ∧ s5 = .int .i64 0 ∧ s17 = .int .i64 k ∧ Hid (rowF S c (r + 1) 9 0 = rowF S c (r + 1) g k) ∧ Hid (Below w.heap.size w wx))
      case atStart => exact ⟨0, rfl, rfl, rfl, rfl, HW⟩
      case round =>
        obtain ⟨k, hk, rfl, rfl, HR, HX⟩ := hrel
        cases gk with
        | zero =>
          obtain rfl : k = 9 := by omega
          have HM := Lib.hid (best_miss S c r HR.out)
          go_wp2_with fail
          go_roundg r
          case measure => omega
          case rel => exact ⟨by omega, rfl, rfl, by rw [← HM.out]; exact HB.out, HX.out⟩
        | succ g =>
          have hlt : k < 9 := by omega
          have hlt' : (k : Int) < 9 := by omega
          have hix := src_ix S k hlt
          have hPw : Hid (IsP wr b S) := hP.out.below HX.out
          have hbl := hPw.out.1
          have hbn : ¬ b = wr.heap.size := by omega
          have q1 := hPw.out.en c hc.out
          have q2 := hPw.out.th c hc.out
          cases h1 : (S.pr k == r + 1)
          · have h1' : (((S.pr k : Nat) : Int) == (r : Int) + 1) = false := (cast_beq (S.pr k) (r + 1)).trans h1
            have H1 := Lib.hid h1
            clear h1
            have HN : Hid (rowF S c (r + 1) 9 0 = rowF S c (r + 1) g (k + 1)) := by have h := row_miss S c (r + 1) g k (hit_of S c (r + 1) k _ _ _ H1.out rfl rfl); rw [← h]; exact HR.out
            go_wp2_with fail
            go_roundg g
            case measure => omega
            case rel => exact ⟨k + 1, by omega, rfl, by go_num, HN.out, by exact HX.out.alloc HX.out.size _⟩
          · have h1' : (((S.pr k : Nat) : Int) == (r : Int) + 1) = true := (cast_beq (S.pr k) (r + 1)).trans h1
            have H1 := Lib.hid h1
            clear h1
            cases h2 : (S.st k == 1)
            · have h2' : (((S.st k : Nat) : Int) == 1) = false := (cast_beq (S.st k) 1).trans h2
              have H2 := Lib.hid h2
              clear h2
              have HN : Hid (rowF S c (r + 1) 9 0 = rowF S c (r + 1) g (k + 1)) := by have h := row_miss S c (r + 1) g k (hit_of S c (r + 1) k _ _ _ H1.out H2.out rfl); rw [← h]; exact HR.out
              go_wp2_with fail
              go_roundg g
              case measure => omega
              case rel => exact ⟨k + 1, by omega, rfl, by go_num, HN.out, by exact HX.out.alloc HX.out.size _⟩
            · have h2' : (((S.st k : Nat) : Int) == 1) = true := (cast_beq (S.st k) 1).trans h2
              have H2 := Lib.hid h2
              clear h2
              cases h3 : takeB S c k
              · have H3 : Hid (takeB S c k = false) := h3
                clear h3
                have HN : Hid (rowF S c (r + 1) 9 0 = rowF S c (r + 1) g (k + 1)) := by have h := row_miss S c (r + 1) g k (hit_of S c (r + 1) k _ _ _ H1.out H2.out H3.out); rw [← h]; exact HR.out
                have ke : (k : Int) ≤ 8 := by omega
                have He : Hid (S.en c < 18446744073709551616) := Nat.lt_trans (hO.out.2.1 c) (by decide)
                go_wp2_with fail
                refine (takes_c (S.en c) (S.th c) k false ke He H3 _).mono ?_; rintro e w2 ⟨rfl, hb2⟩
                go_wp2_with fail
                go_roundg g
                case measure => omega
                case rel => exact ⟨k + 1, by omega, rfl, by go_num, HN.out, by exact (HX.out.alloc HX.out.size _).trans (hb2.mono (by rw [sz_alloc]; have := HX.out.size; omega))⟩
              · have H3 : Hid (takeB S c k = true) := h3
                clear h3
                have HN : Hid (bestF S c 7 = k) := by have h := best_hit S c r k (by rw [HR.out]; exact row_hit S c (r + 1) g k (hit_of S c (r + 1) k _ _ _ H1.out H2.out H3.out)); show _ = _; rw [HB.out, h]
                have ke : (k : Int) ≤ 8 := by omega
                have He : Hid (S.en c < 18446744073709551616) := Nat.lt_trans (hO.out.2.1 c) (by decide)
                go_wp2_with fail
                refine (takes_c (S.en c) (S.th c) k true ke He H3 _).mono ?_; rintro e w2 ⟨rfl, hb2⟩
                go_wp2_with fail
                try rw [Exit.noGoto_ret]
                go_ret
                exact ⟨by rw [show best S c = k from HN.out]; rfl, by exact (HX.out.alloc HX.out.size _).trans (hb2.mono (by rw [sz_alloc]; have := HX.out.size; omega))⟩
end Go.Proofs.Ytfdhhmgenbopbaa
