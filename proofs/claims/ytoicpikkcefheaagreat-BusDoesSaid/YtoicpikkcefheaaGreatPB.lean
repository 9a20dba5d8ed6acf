/- Taken from other texts: what is needed of them. -/
import Derived.Test.YtoicpikkcefheaaGreatPA
import Derived.Deep.LoopGhost
import Derived.Deep.WholeRow
namespace Go.Proofs.YtoicpikkcefheaaGreat.P
set_option linter.unusedVariables false
set_option linter.unusedSimpArgs false
set_option maxRecDepth 20000
open Go.ChangeShapes Go.WideShapes Go.ChangeAt Go.RowKit
def RetI (n : Nat) (W : World) (e : Ending) (w' : World) : Prop := e = .returned (.int .i64 n) ∧ Below W.heap.size W w'
theorem row_hit (S : St) (c r g k : Nat) (h : hitB S c r k = true) : rowF S c r (g + 1) k = some k := by
  show (bif hitB S c r k then some k else rowF S c r g (k + 1)) = some k
  rw [h]; rfl
theorem row_miss (S : St) (c r g k : Nat) (h : hitB S c r k = false) : rowF S c r (g + 1) k = rowF S c r g (k + 1) := by
  show (bif hitB S c r k then some k else rowF S c r g (k + 1)) = _
  rw [h]; rfl
theorem best_hit (S : St) (c r n : Nat) (h : rowF S c (r + 1) 9 0 = some n) : bestF S c (r + 1) = n := by
  show orF _ _ = _
  rw [h]; rfl
theorem best_miss (S : St) (c r : Nat) (h : rowF S c (r + 1) 9 0 = none) : bestF S c (r + 1) = bestF S c r := by
  show orF _ _ = _
  rw [h]; rfl
theorem hit_of (S : St) (c r n : Nat) (x y z : Bool) (h1 : (S.pr n == r) = x) (h2 : (S.st n == 1) = y) (h3 : takeB S c n = z) : hitB S c r n = (x && (y && z)) := by
  unfold hitB; rw [h1, h2, h3]
def OkS (S : St) : Prop := (∀ n, S.pr n < 8) ∧ (∀ c, S.en c < 512) ∧ (∀ c, S.th c < 8) ∧ ∀ n, S.st n < 3
set_option maxRecDepth 100000 in
set_option maxHeartbeats 2000000 in
theorem best_c (b c : Nat) (S : St) (w : World) (hP : Hid (IsP w b S)) (hO : Hid (OkS S)) (hc : Hid (c < 2)) : Calls Tryz.prog 95 #[.pointer (some ⟨b, 0, none⟩), .int .i64 c] w (RetI (best S c) w) := by
  have c2 : (c : Int) < 2 := by have := hc.out; omega
  go_enter Tryz.func95, Tryz.ntmps95
  go_wp2
  go_step3
  go_wp2
  go_step3
  go_wp2
  go_loopg [5, 6] 7 (fun g s5 s6 wx => g ≤ 7 ∧ s5 = .int .i64 0 ∧ s6 = .int .u64 g ∧ Hid (bestF S c 7 = bestF S c g) ∧ Hid (Below w.heap.size w wx))
  case atStart => exact ⟨Nat.le_refl _, rfl, rfl, rfl, Below.refl _ _⟩
  case round =>
    obtain ⟨hg, rfl, rfl, HB, HW⟩ := hrel
    cases gk with
    | zero =>
      go_wp2_with fail
      try rw [Exit.noGoto_ret]
      go_ret
      exact ⟨by rw [show best S c = 0 from HB.out]; rfl, HW.out⟩
    | succ r =>
      have hg' : (r : Int) ≤ 6 := by omega
      have hgt : (0 : Int) < ((r + 1 : Nat) : Int) := by omega
      obtain ⟨wo, rfl⟩ : ∃ wo : World, wo = wr := ⟨_, rfl⟩
      have hPo : Hid (IsP wo b S) := hP.out.below HW.out
      go_wp2_with (refine wpList_load_at rfl 124 _ rfl b 0 rfl (srcP S) _ (src_load hPo.out) Tryz.underlying124 rfl info35 ?_)
      go_loopg [5, 17] 9 (fun g s5 s17 wx => ∃ k : Nat, k + g = 9 ∧ s5 = .int .i64 0 ∧ s17 = .int .i64 k ∧ Hid (rowF S c (r + 1) 9 0 = rowF S c (r + 1) g k) ∧ Hid (Below w.heap.size w wx))
      case atStart => exact ⟨0, rfl, rfl, rfl, rfl, HW⟩
      case round =>
        obtain ⟨k, hk, rfl, rfl, HR, HX⟩ := hrel
        cases gk with
        | zero =>
          obtain rfl : k = 9 := by omega
          have HM := Lib.hid (best_miss S c r HR.out)
          go_wp2_with fail
          go_roundg r
          case measure => omega
          case rel => exact ⟨by omega, rfl, rfl, by rw [← HM.out]; exact HB.out, HX.out⟩
        | succ g =>
          have hlt : k < 9 := by omega
          have hlt' : (k : Int) < 9 := by omega
          have hix := src_ix S k hlt
          have hPw : Hid (IsP wr b S) := hP.out.below HX.out
          have hbl := hPw.out.1
          have hbn : ¬ b = wr.heap.size := by omega
          have q1 := hPw.out.en c hc.out
          have q2 := hPw.out.th c hc.out
          cases h1 : (S.pr k == r + 1)
          · have h1' : (((S.pr k : Nat) : Int) == (r : Int) + 1) = false := (cast_beq (S.pr k) (r + 1)).trans h1
            have H1 := Lib.hid h1
            clear h1
            have HN : Hid (rowF S c (r + 1) 9 0 = rowF S c (r + 1) g (k + 1)) := by have h := row_miss S c (r + 1) g k (hit_of S c (r + 1) k _ _ _ H1.out rfl rfl); rw [← h]; exact HR.out
            go_wp2_with fail
            go_roundg g
            case measure => omega
            case rel => exact ⟨k + 1, by omega, rfl, by go_num, HN.out, by exact HX.out.alloc HX.out.size _⟩
          · have h1' : (((S.pr k : Nat) : Int) == (r : Int) + 1) = true := (cast_beq (S.pr k) (r + 1)).trans h1
            have H1 := Lib.hid h1
            clear h1
            cases h2 : (S.st k == 1)
            · have h2' : (((S.st k : Nat) : Int) == 1) = false := (cast_beq (S.st k) 1).trans h2
              have H2 := Lib.hid h2
              clear h2
              have HN : Hid (rowF S c (r + 1) 9 0 = rowF S c (r + 1) g (k + 1)) := by have h := row_miss S c (r + 1) g k (hit_of S c (r + 1) k _ _ _ H1.out H2.out rfl); rw [← h]; exact HR.out
              go_wp2_with fail
              go_roundg g
              case measure => omega
              case rel => exact ⟨k + 1, by omega, rfl, by go_num, HN.out, by exact HX.out.alloc HX.out.size _⟩
            · have h2' : (((S.st k : Nat) : Int) == 1) = true := (cast_beq (S.st k) 1).trans h2
              have H2 := Lib.hid h2
              clear h2
              cases h3 : takeB S c k
              · have H3 : Hid (takeB S c k = false) := h3
                clear h3
                have HN : Hid (rowF S c (r + 1) 9 0 = rowF S c (r + 1) g (k + 1)) := by have h := row_miss S c (r + 1) g k (hit_of S c (r + 1) k _ _ _ H1.out H2.out H3.out); rw [← h]; exact HR.out
                have ke : (k : Int) ≤ 8 := by omega
                have He : Hid (S.en c < 18446744073709551616) := Nat.lt_trans (hO.out.2.1 c) (by decide)
                go_wp2_with fail
                refine (takes_c (S.en c) (S.th c) k false ke He H3 _).mono ?_; rintro e w2 ⟨rfl, hb2⟩
                go_wp2_with fail
                go_roundg g
                case measure => omega
                case rel => exact ⟨k + 1, by omega, rfl, by go_num, HN.out, by exact (HX.out.alloc HX.out.size _).trans (hb2.mono (by rw [sz_alloc]; have := HX.out.size; omega))⟩
              · have H3 : Hid (takeB S c k = true) := h3
                clear h3
                have HN : Hid (bestF S c 7 = k) := by have h := best_hit S c r k (by rw [HR.out]; exact row_hit S c (r + 1) g k (hit_of S c (r + 1) k _ _ _ H1.out H2.out H3.out)); show _ = _; rw [HB.out, h]
                have ke : (k : Int) ≤ 8 := by omega
                have He : Hid (S.en c < 18446744073709551616) := Nat.lt_trans (hO.out.2.1 c) (by decide)
                go_wp2_with fail
                refine (takes_c (S.en c) (S.th c) k true ke He H3 _).mono ?_; rintro e w2 ⟨rfl, hb2⟩
                go_wp2_with fail
                try rw [Exit.noGoto_ret]
                go_ret
                exact ⟨by rw [show best S c = k from HN.out]; rfl, by exact (HX.out.alloc HX.out.size _).trans (hb2.mono (by rw [sz_alloc]; have := HX.out.size; omega))⟩
end Go.Proofs.YtoicpikkcefheaaGreat.P
namespace Go.Proofs.YtoicpikkcefheaaGreat.P
set_option linter.unusedVariables false
set_option linter.unusedSimpArgs false
set_option maxRecDepth 20000
open Go.ChangeShapes Go.WideShapes Go.ChangeAt Go.RowKit
theorem n9 {n : Nat} (h : n < 9) : n = 0 ∨ n = 1 ∨ n = 2 ∨ n = 3 ∨ n = 4 ∨ n = 5 ∨ n = 6 ∨ n = 7 ∨ n = 8 := by omega
theorem k31 {k : Nat} (h : k < 31) : k = 0 ∨ k = 1 ∨ k = 2 ∨ k = 3 ∨ k = 4 ∨ k = 5 ∨ k = 6 ∨ k = 7 ∨ k = 8 ∨ k = 9 ∨ k = 10 ∨ k = 11 ∨ k = 12 ∨ k = 13 ∨ k = 14 ∨ k = 15 ∨ k = 16 ∨ k = 17 ∨ k = 18 ∨ k = 19 ∨ k = 20 ∨ k = 21 ∨ k = 22 ∨ k = 23 ∨ k = 24 ∨ k = 25 ∨ k = 26 ∨ k = 27 ∨ k = 28 ∨ k = 29 ∨ k = 30 := by omega
theorem IsP.setSt {w : World} {b : Nat} {S : St} (h : IsP w b S) (n x : Nat) (hn : n < 9) : IsP (w.setCell ⟨b, n * 3 + 1, none⟩ (.int .i64 (x : Nat))) b (S.setSt n x) :=
  h.setCell (by omega) (fun k hk => by
    rcases n9 hn with rfl | rfl | rfl | rfl | rfl | rfl | rfl | rfl | rfl <;> (rcases k31 hk with rfl | rfl | rfl | rfl | rfl | rfl | rfl | rfl | rfl | rfl | rfl | rfl | rfl | rfl | rfl | rfl | rfl | rfl | rfl | rfl | rfl | rfl | rfl | rfl | rfl | rfl | rfl | rfl | rfl | rfl | rfl <;> rfl))
theorem IsP.setPr {w : World} {b : Nat} {S : St} (h : IsP w b S) (n x : Nat) (hn : n < 9) : IsP (w.setCell ⟨b, n * 3 + 2, none⟩ (.int .u64 (x : Nat))) b (S.setPr n x) :=
  h.setCell (by omega) (fun k hk => by
    rcases n9 hn with rfl | rfl | rfl | rfl | rfl | rfl | rfl | rfl | rfl <;> (rcases k31 hk with rfl | rfl | rfl | rfl | rfl | rfl | rfl | rfl | rfl | rfl | rfl | rfl | rfl | rfl | rfl | rfl | rfl | rfl | rfl | rfl | rfl | rfl | rfl | rfl | rfl | rfl | rfl | rfl | rfl | rfl | rfl <;> rfl))
theorem IsP.setUp {w : World} {b : Nat} {S : St} (h : IsP w b S) (n : Nat) (x : Bool) (hn : n < 9) : IsP (w.setCell ⟨b, n * 3, none⟩ (.bool x)) b (S.setUp n x) :=
  h.setCell (by omega) (fun k hk => by
    rcases n9 hn with rfl | rfl | rfl | rfl | rfl | rfl | rfl | rfl | rfl <;> (rcases k31 hk with rfl | rfl | rfl | rfl | rfl | rfl | rfl | rfl | rfl | rfl | rfl | rfl | rfl | rfl | rfl | rfl | rfl | rfl | rfl | rfl | rfl | rfl | rfl | rfl | rfl | rfl | rfl | rfl | rfl | rfl | rfl <;> rfl))
theorem IsP.setEn {w : World} {b : Nat} {S : St} (h : IsP w b S) (n x : Nat) (hn : n < 2) : IsP (w.setCell ⟨b, 27 + n * 2, none⟩ (.int .u64 (x : Nat))) b (S.setEn n x) :=
  h.setCell (by omega) (fun k hk => by
    rcases (show n = 0 ∨ n = 1 by omega) with rfl | rfl <;> (rcases k31 hk with rfl | rfl | rfl | rfl | rfl | rfl | rfl | rfl | rfl | rfl | rfl | rfl | rfl | rfl | rfl | rfl | rfl | rfl | rfl | rfl | rfl | rfl | rfl | rfl | rfl | rfl | rfl | rfl | rfl | rfl | rfl <;> rfl))
theorem IsP.setTh {w : World} {b : Nat} {S : St} (h : IsP w b S) (n x : Nat) (hn : n < 2) : IsP (w.setCell ⟨b, 27 + n * 2 + 1, none⟩ (.int .u64 (x : Nat))) b (S.setTh n x) :=
  h.setCell (by omega) (fun k hk => by
    rcases (show n = 0 ∨ n = 1 by omega) with rfl | rfl <;> (rcases k31 hk with rfl | rfl | rfl | rfl | rfl | rfl | rfl | rfl | rfl | rfl | rfl | rfl | rfl | rfl | rfl | rfl | rfl | rfl | rfl | rfl | rfl | rfl | rfl | rfl | rfl | rfl | rfl | rfl | rfl | rfl | rfl <;> rfl))
def comeF (S : St) (n : Nat) : St := bif S.up n && S.st n == 0 then S.setSt n 1 else S
def RetN (S : St) (W : World) (e : Ending) (w' : World) : Prop := ∃ b, e = .returned (.pointer (some ⟨b, 0, none⟩)) ∧ W.heap.size ≤ b ∧ IsP w' b S ∧ Below W.heap.size W w'
set_option maxRecDepth 100000 in
theorem new_c (w : World) : Calls Tryz.prog 72 #[] w (RetN S0 w) := by
  go_enter Tryz.func72, Tryz.ntmps72
  go_wp2_with fail
  go_ret
  exact ⟨_, rfl, Nat.le_refl _, isP_new w S0 _, (by repeat (first | (with_reducible first | exact Below.refl _ _ | assumption | exact Nat.le_refl _ | refine Below.drew ?_ | refine Below.alloc ?_ ?_ _ | refine below_drewN ?_ _ | refine Below.setCell ?_ ?_ _ | refine le_alloc ?_ | refine le_set ?_ | refine le_drew ?_ | refine le_drewN ?_ | refine below_step (by assumption) ?_ ?_ | refine le_below (by assumption) ?_) | (dsimp only; omega)))⟩
set_option maxRecDepth 100000 in
theorem come_c (b n : Nat) (S : St) (w : World) (hP : Hid (IsP w b S)) (hn : Hid (n < 9)) : Calls Tryz.prog 102 #[.pointer (some ⟨b, n * 3, none⟩)] w (RetP b (comeF S n) w) := by
  have q1 := hP.out.up n hn.out
  have q2 := hP.out.st n hn.out
  have q3 := hP.out.fr (n * 3 + 1) (by have := hn.out; omega)
  have HS := Lib.hid (hP.out.setSt n 1 hn.out)
  cases h1 : S.up n
  · rw [h1] at q1
    have HC : Hid (comeF S n = S) := by show _ = _; unfold comeF; rw [h1]; rfl
    clear h1
    go_enter Tryz.func102, Tryz.ntmps102
    go_wp2_with fail
    go_end0
    exact ⟨rfl, by rw [HC.out]; exact hP.out, grown_refl _ _⟩
  · rw [h1] at q1
    cases h2 : (S.st n == 0)
    · have h2' : (((S.st n : Nat) : Int) == 0) = false := (cast_beq (S.st n) 0).trans h2
      have HC : Hid (comeF S n = S) := by show _ = _; unfold comeF; rw [h1, h2]; rfl
      clear h1 h2
      go_enter Tryz.func102, Tryz.ntmps102
      go_wp2_with fail
      go_end0
      exact ⟨rfl, by rw [HC.out]; exact hP.out, grown_refl _ _⟩
    · have h2' : (((S.st n : Nat) : Int) == 0) = true := (cast_beq (S.st n) 0).trans h2
      have HC : Hid (comeF S n = S.setSt n 1) := by show _ = _; unfold comeF; rw [h1, h2]; rfl
      clear h1 h2
      go_enter Tryz.func102, Tryz.ntmps102
      go_wp2_with fail
      go_end0
      exact ⟨rfl, by rw [HC.out]; exact HS.out, grown_set (grown_refl _ _) _ none _ none⟩
end Go.Proofs.YtoicpikkcefheaaGreat.P
namespace Go.Proofs.YtoicpikkcefheaaGreat.P
set_option linter.unusedVariables false
set_option linter.unusedSimpArgs false
set_option maxRecDepth 20000
open Go.ChangeShapes Go.WideShapes Go.ChangeAt Go.RowKit
theorem info40 {S : St} : (Tryz.prog.info? 129).map (·.size) = some (cellsP S).size := by rw [show (cellsP S).size = 31 from rfl]; kernel_rfl
theorem all_load {w : World} {b : Nat} {S : St} (h : IsP w b S) : ∀ j, j < (cellsP S).size → w.cell? ⟨b, 0 + j, none⟩ = (cellsP S)[j]? := by
  intro j hj
  rw [Nat.zero_add]
  exact (h.2 j hj).1
theorem one31 (S : St) : (cellsP S).all (·.oneCell') = true := by simp [cellsP, Value.oneCell']
set_option maxRecDepth 100000 in
theorem copy_c (b : Nat) (S : St) (w : World) (hP : Hid (IsP w b S)) : Calls Tryz.prog 88 #[.pointer (some ⟨b, 0, none⟩)] w (RetN S w) := by
  go_enter Tryz.func88, Tryz.ntmps88
  go_wp2_with (first
    | (refine wpList_load_at rfl 129 _ rfl b 0 rfl (cellsP S) _ (all_load hP.out) Tryz.underlying129 rfl info40 ?_)
    | (refine wpList_store_row rfl 129 _ _ rfl w.heap.size (cellsP S) rfl rfl 129 (cellsP S0) (heap_alloc_last w _) info40 rfl (one31 S) ?_; rw [World.setRow_alloc_new]))
  go_ret
  exact ⟨_, rfl, Nat.le_refl _, isP_new w S _, (by repeat (first | (with_reducible first | exact Below.refl _ _ | assumption | exact Nat.le_refl _ | refine Below.drew ?_ | refine Below.alloc ?_ ?_ _ | refine below_drewN ?_ _ | refine Below.setCell ?_ ?_ _ | refine le_alloc ?_ | refine le_set ?_ | refine le_drew ?_ | refine le_drewN ?_ | refine below_step (by assumption) ?_ ?_ | refine le_below (by assumption) ?_) | (dsimp only; omega)))⟩
def RetL (ok : Bool) (b : Nat) (S : St) (W : World) (e : Ending) (w' : World) : Prop := e = .returned (.bool ok) ∧ IsP w' b S ∧ W.grownBy w' (some b)
set_option maxRecDepth 100000 in
theorem line_c (b n : Nat) (up : Bool) (S : St) (w : World) (hP : Hid (IsP w b S)) (hn : Hid (1 ≤ n ∧ n < 9)) : Calls Tryz.prog 91 #[.pointer (some ⟨b, 0, none⟩), .int .i64 n, .bool up] w (RetL true b (comeF (S.setUp n up) n) w) := by
  have n1 : ¬ (n : Int) < 1 := by have := hn.out; omega
  have n8 : ¬ (8 : Int) < n := by have := hn.out; omega
  have n9 : (n : Int) < 9 := by have := hn.out; omega
  have q1 := hP.out.up n hn.out.2
  have q3 := hP.out.fr (n * 3) (by have := hn.out; omega)
  have HS := Lib.hid (hP.out.setUp n up hn.out.2)
  go_enter Tryz.func91, Tryz.ntmps91
  go_wp2_with fail
  refine (come_c b n _ _ HS (Lib.hid hn.out.2)).mono ?_; rintro e w1 ⟨rfl, h1, h2⟩
  go_wp2_with fail
  go_ret
  exact ⟨rfl, h1, grown_trans (grown_set (grown_refl _ _) _ none _ none) h2⟩
def claimF (S : St) (c : Nat) : St := bif best S c == 0 then S else S.setSt (best S c) 2
def RetU2 (n b : Nat) (S : St) (W : World) (e : Ending) (w' : World) : Prop := e = .returned (.int .u64 n) ∧ IsP w' b S ∧ W.grownBy w' (some b)
set_option maxRecDepth 100000 in
theorem claim_c (b c : Nat) (S : St) (w : World) (hP : Hid (IsP w b S)) (hO : Hid (OkS S)) (hc : Hid (c < 2)) : Calls Tryz.prog 126 #[.pointer (some ⟨b, 0, none⟩), .int .i64 c] w (RetU2 (best S c) b (claimF S c) w) := by
  obtain ⟨n, hn⟩ : ∃ n, best S c = n := ⟨_, rfl⟩
  have n9 : n < 9 := by rw [← hn]; exact best_lt S c 7
  have n9' : (n : Int) < 9 := by omega
  have N9 := Lib.hid n9
  have HN := Lib.hid hn
  have n64 : IntKind.u64.wrap (n : Int) = n := by rw [IntKind.wrap_u64]; omega
  clear hn
  go_enter Tryz.func126, Tryz.ntmps126
  go_wp2_with fail
  refine (best_c b c S w hP hO hc).mono ?_; rintro e w1 ⟨rfl, hb1⟩
  rw [HN.out]
  have HB := Lib.hid hb1
  have HP1 : Hid (IsP w1 b S) := hP.out.below hb1
  clear hb1
  cases h0 : n == 0
  · have h0' : ((n : Int) != 0) = true := by have := (cast_beq n 0).trans h0; simpa [bne] using this
    have h0'' : ((n : Int) == 0) = false := (cast_beq n 0).trans h0
    have HC : Hid (claimF S c = S.setSt n 2) := by show _ = _; unfold claimF; rw [HN.out, h0]; rfl
    have q1 := HP1.out.st n N9.out
    have q3 := HP1.out.fr (n * 3 + 1) (by have := N9.out; omega)
    have HS := Lib.hid (HP1.out.setSt n 2 N9.out)
    clear h0
    go_wp2_with fail
    go_ret
    exact ⟨by rw [HN.out]; rfl, by rw [HC.out]; exact HS.out, grown_set (grown_any (grown_below HB.out)) _ none _ none⟩
  · obtain rfl : n = 0 := by simpa using h0
    have HC : Hid (claimF S c = S) := by show _ = _; unfold claimF; rw [HN.out]; rfl
    clear h0
    go_wp2_with fail
    go_ret
    exact ⟨by rw [HN.out]; rfl, by rw [HC.out]; exact HP1.out, grown_any (grown_below HB.out)⟩
def finF (S : St) (c n : Nat) : St := bif decide (n < 9) && (S.st n == 2 && takeB S c n) then comeF (S.setSt n 0) n else S
set_option maxRecDepth 100000 in
theorem fin_c (b c n : Nat) (S : St) (w : World) (hP : Hid (IsP w b S)) (hO : Hid (OkS S)) (hc : Hid (c < 2)) (hn : Hid (n < 9)) : Calls Tryz.prog 127 #[.pointer (some ⟨b, 0, none⟩), .int .i64 c, .int .u64 n] w (RetP b (finF S c n) w) := by
  have n8 : ¬ (8 : Int) < n := by have := hn.out; omega
  have n9 : (n : Int) < 9 := by have := hn.out; omega
  have c2 : (c : Int) < 2 := by have := hc.out; omega
  have q2 := hP.out.st n hn.out
  have q3 := hP.out.fr (n * 3 + 1) (by have := hn.out; omega)
  have q4 := hP.out.en c hc.out
  have q5 := hP.out.th c hc.out
  have D : decide (n < 9) = true := decide_eq_true hn.out
  have HD := Lib.hid D
  clear D
  cases h2 : (S.st n == 2)
  · have h2' : (((S.st n : Nat) : Int) == 2) = false := (cast_beq (S.st n) 2).trans h2
    have HC : Hid (finF S c n = S) := by show _ = _; unfold finF; rw [h2, HD.out]; rfl
    clear h2
    go_enter Tryz.func127, Tryz.ntmps127
    go_wp2_with fail
    go_end0
    exact ⟨rfl, by rw [HC.out]; exact hP.out, grown_refl _ _⟩
  · have h2' : (((S.st n : Nat) : Int) == 2) = true := (cast_beq (S.st n) 2).trans h2
    have He : Hid (S.en c < 18446744073709551616) := Nat.lt_trans (hO.out.2.1 c) (by decide)
    have ke : (n : Int) ≤ 8 := by omega
    cases h3 : takeB S c n
    · have HC : Hid (finF S c n = S) := by show _ = _; unfold finF; rw [h2, h3, HD.out]; rfl
      have H3 : Hid (takeB S c n = false) := h3
      clear h2 h3
      go_enter Tryz.func127, Tryz.ntmps127
      go_wp2_with fail
      refine (takes_c (S.en c) (S.th c) n false ke He H3 _).mono ?_; rintro e w2 ⟨rfl, hb2⟩
      go_wp2_with fail
      go_end0
      exact ⟨rfl, by rw [HC.out]; exact hP.out.below hb2, grown_any (grown_below hb2)⟩
    · have HC : Hid (finF S c n = comeF (S.setSt n 0) n) := by show _ = _; unfold finF; rw [h2, h3, HD.out]; rfl
      have H3 : Hid (takeB S c n = true) := h3
      clear h2 h3
      go_enter Tryz.func127, Tryz.ntmps127
      go_wp2_with fail
      refine (takes_c (S.en c) (S.th c) n true ke He H3 _).mono ?_; rintro e w2 ⟨rfl, hb2⟩
      have HB := Lib.hid hb2
      have HP2 : Hid (IsP w2 b S) := hP.out.below hb2
      have HS := Lib.hid (HP2.out.setSt n 0 hn.out)
      clear hb2 q2 q3 q4 q5
      have q2 := HP2.out.st n hn.out
      have q3 := HP2.out.fr (n * 3 + 1) (by have := hn.out; omega)
      go_wp2_with fail
      refine (come_c b n _ _ HS hn).mono ?_; rintro e w3 ⟨rfl, h1, h2⟩
      go_wp2_with fail
      go_end0
      exact ⟨rfl, by rw [HC.out]; exact h1, grown_trans (grown_set (grown_any (grown_below HB.out)) _ none _ none) h2⟩
end Go.Proofs.YtoicpikkcefheaaGreat.P
