/- Line, claim, finish, Copy. -/
import Derived.Test.YtfdhhmgenbopbaaB4
import Derived.Deep.WholeRow
namespace Go.Proofs.Ytfdhhmgenbopbaa
open Go.ChangeShapes Go.WideShapes Go.ChangeAt Go.RowKit
set_option linter.unusedVariables false
set_option linter.unusedSimpArgs false
theorem info40 {S : St} : (Try.prog.info? 40).map (·.size) = some (cellsP S).size := by rw [show (cellsP S).size = 31 from rfl]; kernel_rfl
theorem all_load {w : World} {b : Nat} {S : St} (h : IsP w b S) : ∀ j, j < (cellsP S).size → w.cell? ⟨b, 0 + j, none⟩ = (cellsP S)[j]? := by
  intro j hj
  rw [Nat.zero_add]
  exact (h.2 j hj).1
theorem one31 (S : St) : (cellsP S).all (·.oneCell') = true := by simp [cellsP, Value.oneCell']
set_option maxRecDepth 100000 in
theorem copy_c (b : Nat) (S : St) (w : World) (hP : Hid (IsP w b S)) : Calls Try.prog 11 #[.pointer (some ⟨b, 0, none⟩)] w (RetN S w) := by
  go_enter Try.func11, Try.ntmps11
  go_wp2_with (first
    | (refine wpList_load_at rfl 40 _ rfl b 0 rfl (cellsP S) _ (all_load hP.out) Try.underlying40 rfl info40 ?_)
    | (refine wpList_store_row rfl 40 _ _ rfl w.heap.size (cellsP S) rfl rfl 40 (cellsP S0) (heap_alloc_last w _) info40 rfl (one31 S) ?_; rw [World.setRow_alloc_new]))
  go_ret
  exact ⟨_, rfl, Nat.le_refl _, isP_new w S _, (by repeat (first | (with_reducible first | exact Below.refl _ _ | assumption | exact Nat.le_refl _ | refine Below.drew ?_ | refine Below.alloc ?_ ?_ _ | refine below_drewN ?_ _ | refine Below.setCell ?_ ?_ _ | refine le_alloc ?_ | refine le_set ?_ | refine le_drew ?_ | refine le_drewN ?_ | refine below_step (by assumption) ?_ ?_ | refine le_below (by assumption) ?_) | (dsimp only; omega)))⟩
def RetL (ok : Bool) (b : Nat) (S : St) (W : World) (e : Ending) (w' : World) : Prop := e = .returned (.bool ok) ∧ IsP w' b S ∧ W.grownBy w' (some b)
set_option maxRecDepth 100000 in
theorem line_c (b n : Nat) (up : Bool) (S : St) (w : World) (hP : Hid (IsP w b S)) (hn : Hid (1 ≤ n ∧ n < 9)) : Calls Try.prog 10 #[.pointer (some ⟨b, 0, none⟩), .int .i64 n, .bool up] w (RetL true b (comeF (S.setUp n up) n) w) := by
  have n1 : ¬ (n : Int) < 1 := by have := hn.out; omega
  have n8 : ¬ (8 : Int) < n := by have := hn.out; omega
  have n9 : (n : Int) < 9 := by have := hn.out; omega
  have q1 := hP.out.up n hn.out.2
  have q3 := hP.out.fr (n * 3) (by have := hn.out; omega)
  have HS := Lib.hid (hP.out.setUp n up hn.out.2)
  go_enter Try.func10, Try.ntmps10
  go_wp2_with fail
  refine (come_c b n _ _ HS (Lib.hid hn.out.2)).mono ?_; rintro e w1 ⟨rfl, h1, h2⟩
  go_wp2_with fail
  go_ret
  exact ⟨rfl, h1, grown_trans (grown_set (grown_refl _ _) _ none _ none) h2⟩
theorem line_9 (b : Nat) (p : Value) (w : World) : Calls Try.prog 10 #[p, .int .i64 9, .bool true] w (RetB false w) := by
  go_enter Try.func10, Try.ntmps10
  go_wp2_with fail
  go_ret
  exact retB_mk rfl (by repeat (first | (with_reducible first | exact Below.refl _ _ | assumption | exact Nat.le_refl _ | refine Below.drew ?_ | refine Below.alloc ?_ ?_ _ | refine below_drewN ?_ _ | refine Below.setCell ?_ ?_ _ | refine le_alloc ?_ | refine le_set ?_ | refine le_drew ?_ | refine le_drewN ?_ | refine below_step (by assumption) ?_ ?_ | refine le_below (by assumption) ?_) | (dsimp only; omega)))
def claimF (S : St) (c : Nat) : St := bif best S c == 0 then S else S.setSt (best S c) 2
def RetU2 (n b : Nat) (S : St) (W : World) (e : Ending) (w' : World) : Prop := e = .returned (.int .u64 n) ∧ IsP w' b S ∧ W.grownBy w' (some b)
set_option maxRecDepth 100000 in
theorem claim_c (b c : Nat) (S : St) (w : World) (hP : Hid (IsP w b S)) (hO : Hid (OkS S)) (hc : Hid (c < 2)) : Calls Try.prog 15 #[.pointer (some ⟨b, 0, none⟩), .int .i64 c] w (RetU2 (best S c) b (claimF S c) w) := by
  obtain ⟨n, hn⟩ : ∃ n, best S c = n := ⟨_, rfl⟩
  have n9 : n < 9 := by rw [← hn]; exact best_lt S c 7
  have n9' : (n : Int) < 9 := by omega
  have N9 := Lib.hid n9
  have HN := Lib.hid hn
  have n64 : IntKind.u64.wrap (n : Int) = n := by rw [IntKind.wrap_u64]; omega
  clear hn
  go_enter Try.func15, Try.ntmps15
  go_wp2_with fail
  refine (best_c b c S w hP hO hc).mono ?_; rintro e w1 ⟨rfl, hb1⟩
  rw [HN.out]
  have HB := Lib.hid hb1
  have HP1 : Hid (IsP w1 b S) := hP.out.below hb1
  clear hb1
  cases h0 : n == 0
  · have h0' : ((n : Int) != 0) = true := by have := (cast_beq n 0).trans h0; simpa [bne] using this
    have h0'' : ((n : Int) == 0) = false := (cast_beq n 0).trans h0
    have HC : Hid (claimF S c = S.setSt n 2) := by show _ = _; unfold claimF; rw [HN.out, h0]; rfl
    have q1 := HP1.out.st n N9.out
    have q3 := HP1.out.fr (n * 3 + 1) (by have := N9.out; omega)
    have HS := Lib.hid (HP1.out.setSt n 2 N9.out)
    clear h0
    go_wp2_with fail
    go_ret
    exact ⟨by rw [HN.out]; rfl, by rw [HC.out]; exact HS.out, grown_set (grown_any (grown_below HB.out)) _ none _ none⟩
  · obtain rfl : n = 0 := by simpa using h0
    have HC : Hid (claimF S c = S) := by show _ = _; unfold claimF; rw [HN.out]; rfl
    clear h0
    go_wp2_with fail
    go_ret
    exact ⟨by rw [HN.out]; rfl, by rw [HC.out]; exact HP1.out, grown_any (grown_below HB.out)⟩
def finF (S : St) (c n : Nat) : St := bif decide (n < 9) && (S.st n == 2 && takeB S c n) then comeF (S.setSt n 0) n else S
set_option maxRecDepth 100000 in
theorem fin_c (b c n : Nat) (S : St) (w : World) (hP : Hid (IsP w b S)) (hO : Hid (OkS S)) (hc : Hid (c < 2)) (hn : Hid (n < 9)) : Calls Try.prog 13 #[.pointer (some ⟨b, 0, none⟩), .int .i64 c, .int .u64 n] w (RetP b (finF S c n) w) := by
  have n8 : ¬ (8 : Int) < n := by have := hn.out; omega
  have n9 : (n : Int) < 9 := by have := hn.out; omega
  have c2 : (c : Int) < 2 := by have := hc.out; omega
  have q2 := hP.out.st n hn.out
  have q3 := hP.out.fr (n * 3 + 1) (by have := hn.out; omega)
  have q4 := hP.out.en c hc.out
  have q5 := hP.out.th c hc.out
  have D : decide (n < 9) = true := decide_eq_true hn.out
  have HD := Lib.hid D
  clear D
  cases h2 : (S.st n == 2)
  · have h2' : (((S.st n : Nat) : Int) == 2) = false := (cast_beq (S.st n) 2).trans h2
    have HC : Hid (finF S c n = S) := by show _ = _; unfold finF; rw [h2, HD.out]; rfl
    clear h2
    go_enter Try.func13, Try.ntmps13
    go_wp2_with fail
    go_end0
    exact ⟨rfl, by rw [HC.out]; exact hP.out, grown_refl _ _⟩
  · have h2' : (((S.st n : Nat) : Int) == 2) = true := (cast_beq (S.st n) 2).trans h2
    have He : Hid (S.en c < 18446744073709551616) := Nat.lt_trans (hO.out.2.1 c) (by decide)
    have ke : (n : Int) ≤ 8 := by omega
    cases h3 : takeB S c n
    · have HC : Hid (finF S c n = S) := by show _ = _; unfold finF; rw [h2, h3, HD.out]; rfl
      have H3 : Hid (takeB S c n = false) := h3
      clear h2 h3
      go_enter Try.func13, Try.ntmps13
      go_wp2_with fail
      refine (takes_c (S.en c) (S.th c) n false ke He H3 _).mono ?_; rintro e w2 ⟨rfl, hb2⟩
      go_wp2_with fail
      go_end0
      exact ⟨rfl, by rw [HC.out]; exact hP.out.below hb2, grown_any (grown_below hb2)⟩
    · have HC : Hid (finF S c n = comeF (S.setSt n 0) n) := by show _ = _; unfold finF; rw [h2, h3, HD.out]; rfl
      have H3 : Hid (takeB S c n = true) := h3
      clear h2 h3
      go_enter Try.func13, Try.ntmps13
      go_wp2_with fail
      refine (takes_c (S.en c) (S.th c) n true ke He H3 _).mono ?_; rintro e w2 ⟨rfl, hb2⟩
      have HB := Lib.hid hb2
      have HP2 : Hid (IsP w2 b S) := hP.out.below hb2
      have HS := Lib.hid (HP2.out.setSt n 0 hn.out)
      clear hb2 q2 q3 q4 q5
      have q2 := HP2.out.st n hn.out
      have q3 := HP2.out.fr (n * 3 + 1) (by have := hn.out; omega)
      go_wp2_with fail
      refine (come_c b n _ _ HS hn).mono ?_; rintro e w3 ⟨rfl, h1, h2⟩
      go_wp2_with fail
      go_end0
      exact ⟨rfl, by rw [HC.out]; exact h1, grown_trans (grown_set (grown_any (grown_below HB.out)) _ none _ none) h2⟩
end Go.Proofs.Ytfdhhmgenbopbaa
