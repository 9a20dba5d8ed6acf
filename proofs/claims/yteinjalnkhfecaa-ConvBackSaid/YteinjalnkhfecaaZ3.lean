/- The reference's ends, number, whole. -/
import Derived.Test.YteinjalnkhfecaaZ1
import Derived.Test.YteinjalnkhfecaaQK10
namespace Go.Proofs.Yteinjalnkhfecaa
open Go.ChangeShapes Go.WideShapes Go.ChangeAt Go.RowKit
set_option linter.unusedVariables false
set_option linter.unusedSimpArgs false
theorem big_empty (w : World) (g p : Nat) (h : g < w.heap.size) : Q.IsBig w g 0 p 0 := ⟨⟨h, Nat.zero_le _, fun i hi => absurd hi (by omega), by decide⟩, Or.inl rfl⟩
theorem big_below' {w0 w1 w2 : World} {g n p A : Nat} (h : Q.IsBig w0 g n p A) (b1 : Below w0.heap.size w0 w1) (b2 : Below w1.heap.size w1 w2) : Hid (Q.IsBig w2 g n p A) :=
  Q.big_below (Q.big_below h b1 (Nat.le_refl _)) b2 (Nat.le_refl _)
def RetE (A B : Nat) (W : World) (e : Ending) (w' : World) : Prop := ∃ g1 n1 p1 g2 n2 p2 : Nat, e = .returned (.tuple #[.slice (some ⟨g1, 0, none⟩) n1 p1, .slice (some ⟨g2, 0, none⟩) n2 p2]) ∧ Hid (Q.IsBig w' g1 n1 p1 A) ∧ Hid (Q.IsBig w' g2 n2 p2 B) ∧ n1 ≤ 3 ∧ n2 ≤ 3 ∧ Below W.heap.size W w'
theorem len3 {w : World} {g n p A : Nat} (h : Q.IsBig w g n p A) (hA : A < 2 ^ 65) : n ≤ 3 := Q.big_len h (Q.shd_eq_zero.2 (Nat.lt_of_lt_of_le hA (Nat.pow_le_pow_right (by decide) (by decide))))
theorem one_at (w : World) : Hid (Q.IsRaw (w.alloc (Obj.cells #[.int .u32 1] 36)) w.heap.size 1 1 1) := (Q.one_big w).1
set_option maxRecDepth 100000 in
theorem ends_00 (w : World) : Calls Try.prog 48 #[.bool false, .bool false] w (RetE (farV false false true) (farV false false false) w) := by
  go_enter Try.func48, Try.ntmps48
  go_wp2_with fail
  have b1 := Q.below_one w (Obj.cells #[.int .u32 1] 36)
  refine (Q.up_c w.heap.size 1 1 1 63 _ (one_at w) (by omega) (by omega)).mono ?_; rintro e w1 ⟨g, n, p, rfl, hA, b2⟩
  have hw := b1.trans (b2.mono b1.size)
  clear b1 b2
  have l1 := len3 hA.out (by decide)
  go_wp2_with fail
  have b3 := Q.below_one w1 (Obj.cells #[.int .u32 1] 36)
  refine (Q.bminus_c g n p _ w1.heap.size 1 1 1 _ (Lib.hid (Q.raw_below hA.out.1 b3 (Nat.le_refl _))) (one_at w1) (by show _ ≤ _; decide) (by omega) (by omega)).mono ?_; rintro e w2 ⟨g2, n2, p2, rfl, hB, b4⟩
  have h2 := big_below' hA.out b3 b4
  have hw2 := (hw.trans (b3.mono hw.size)).trans (b4.mono (Nat.le_trans hw.size b3.size))
  have l2 := len3 hB.out (by decide)
  go_wp2_with fail
  go_ret2
  exact ⟨_, _, _, _, _, _, rfl, h2, hB, l1, l2, hw2⟩
set_option maxRecDepth 100000 in
theorem ends_01 (w : World) : Calls Try.prog 48 #[.bool false, .bool true] w (RetE (farV false true true) (farV false true false) w) := by
  go_enter Try.func48, Try.ntmps48
  go_wp2_with fail
  have b0 := Q.below_one w (Obj.cells #[] 36)
  have H0 := Lib.hid (big_empty (w.alloc (Obj.cells #[] 36)) w.heap.size 0 (by rw [sz_alloc]; omega))
  have S0 : (w.alloc (Obj.cells #[] 36)).heap.size = w.heap.size + 1 := sz_alloc _ _
  generalize (w.alloc (Obj.cells #[] 36)) = w0 at *
  rw [← S0]
  have b1 := Q.below_one w0 (Obj.cells #[.int .u32 1] 36)
  refine (Q.up_c w0.heap.size 1 1 1 64 _ (one_at w0) (by omega) (by omega)).mono ?_; rintro e w1 ⟨g, n, p, rfl, hA, b2⟩
  have h0 := big_below' H0.out b1 b2
  have hw := (b0.trans (b1.mono b0.size)).trans (b2.mono (Nat.le_trans b0.size b1.size))
  clear H0 S0 b0 b1 b2
  have l1 := len3 hA.out (by decide)
  go_wp2_with fail
  have b3 := Q.below_one w1 (Obj.cells #[.int .u32 1] 36)
  refine (Q.bminus_c g n p _ w1.heap.size 1 1 1 _ (Lib.hid (Q.raw_below hA.out.1 b3 (Nat.le_refl _))) (one_at w1) (by show _ ≤ _; decide) (by omega) (by omega)).mono ?_; rintro e w2 ⟨g2, n2, p2, rfl, hB, b4⟩
  have h2 := big_below' h0 b3 b4
  have hw2 := (hw.trans (b3.mono hw.size)).trans (b4.mono (Nat.le_trans hw.size b3.size))
  have l2 := len3 hB.out (by decide)
  go_wp2_with fail
  go_ret2
  exact ⟨_, _, _, _, _, _, rfl, h2, hB, by omega, l2, hw2⟩
set_option maxRecDepth 100000 in
theorem ends_10 (w : World) : Calls Try.prog 48 #[.bool true, .bool false] w (RetE (farV true false true) (farV true false false) w) := by
  go_enter Try.func48, Try.ntmps48
  go_wp2_with fail
  have b1 := Q.below_one w (Obj.cells #[.int .u32 1] 36)
  refine (Q.up_c w.heap.size 1 1 1 31 _ (one_at w) (by omega) (by omega)).mono ?_; rintro e w1 ⟨g, n, p, rfl, hA, b2⟩
  have hw := b1.trans (b2.mono b1.size)
  clear b1 b2
  have l1 := len3 hA.out (by decide)
  go_wp2_with fail
  have b3 := Q.below_one w1 (Obj.cells #[.int .u32 1] 36)
  refine (Q.bminus_c g n p _ w1.heap.size 1 1 1 _ (Lib.hid (Q.raw_below hA.out.1 b3 (Nat.le_refl _))) (one_at w1) (by show _ ≤ _; decide) (by omega) (by omega)).mono ?_; rintro e w2 ⟨g2, n2, p2, rfl, hB, b4⟩
  have h2 := big_below' hA.out b3 b4
  have hw2 := (hw.trans (b3.mono hw.size)).trans (b4.mono (Nat.le_trans hw.size b3.size))
  have l2 := len3 hB.out (by decide)
  go_wp2_with fail
  go_ret2
  exact ⟨_, _, _, _, _, _, rfl, h2, hB, l1, l2, hw2⟩
set_option maxRecDepth 100000 in
theorem ends_11 (w : World) : Calls Try.prog 48 #[.bool true, .bool true] w (RetE (farV true true true) (farV true true false) w) := by
  go_enter Try.func48, Try.ntmps48
  go_wp2_with fail
  have b0 := Q.below_one w (Obj.cells #[] 36)
  have H0 := Lib.hid (big_empty (w.alloc (Obj.cells #[] 36)) w.heap.size 0 (by rw [sz_alloc]; omega))
  have S0 : (w.alloc (Obj.cells #[] 36)).heap.size = w.heap.size + 1 := sz_alloc _ _
  generalize (w.alloc (Obj.cells #[] 36)) = w0 at *
  rw [← S0]
  have b1 := Q.below_one w0 (Obj.cells #[.int .u32 1] 36)
  refine (Q.up_c w0.heap.size 1 1 1 32 _ (one_at w0) (by omega) (by omega)).mono ?_; rintro e w1 ⟨g, n, p, rfl, hA, b2⟩
  have h0 := big_below' H0.out b1 b2
  have hw := (b0.trans (b1.mono b0.size)).trans (b2.mono (Nat.le_trans b0.size b1.size))
  clear H0 S0 b0 b1 b2
  have l1 := len3 hA.out (by decide)
  go_wp2_with fail
  have b3 := Q.below_one w1 (Obj.cells #[.int .u32 1] 36)
  refine (Q.bminus_c g n p _ w1.heap.size 1 1 1 _ (Lib.hid (Q.raw_below hA.out.1 b3 (Nat.le_refl _))) (one_at w1) (by show _ ≤ _; decide) (by omega) (by omega)).mono ?_; rintro e w2 ⟨g2, n2, p2, rfl, hB, b4⟩
  have h2 := big_below' h0 b3 b4
  have hw2 := (hw.trans (b3.mono hw.size)).trans (b4.mono (Nat.le_trans hw.size b3.size))
  have l2 := len3 hB.out (by decide)
  go_wp2_with fail
  go_ret2
  exact ⟨_, _, _, _, _, _, rfl, h2, hB, by omega, l2, hw2⟩
theorem ends_r (wd u : Bool) (w : World) : Calls Try.prog 48 #[.bool wd, .bool u] w (RetE (farV wd u true) (farV wd u false) w) := by
  cases wd <;> cases u
  · exact ends_00 w
  · exact ends_01 w
  · exact ends_10 w
  · exact ends_11 w
theorem extend_r (x : Nat) (w : World) : Calls Try.prog 57 #[.int .u64 x] w (fun e w' => e = .returned (.int .u64 (wideV x : Nat)) ∧ w' = w) := by
  have W : Hid (IntKind.u64.wrap (wrap64 (wrap32 ((x : Int) % 4294967296))) = ((wideV x : Nat) : Int)) := by
    show _ = _
    have h := wide_form (x % 4294967296)
    rw [show wideV (x % 4294967296) = wideV x by unfold wideV; rw [Nat.mod_mod]] at h
    rw [show ((x : Int) % 4294967296) = ((x % 4294967296 : Nat) : Int) by omega]
    exact h
  generalize wideV x = v at *
  go_enter Try.func57, Try.ntmps57
  go_wp2_with fail
  go_ret
  exact ⟨by rw [← W.out]; rfl, rfl⟩
theorem numV_mod (wd m : Bool) (A y : Nat) (h : A % 18446744073709551616 = y) (hA : A < 18446744073709551616) : numV wd m A = numV wd m y := by rw [← h, Nat.mod_eq_of_lt hA]
set_option maxRecDepth 100000 in
theorem number_r (wd m : Bool) (g n p A : Nat) (w : World) (h : Hid (Q.IsRaw w g n p A)) (hn : n ≤ 1000) (hA : Hid (A < 18446744073709551616)) : Calls Try.prog 49 #[.bool wd, .bool m, .slice (some ⟨g, 0, none⟩) n p] w (RetU (numV wd m A) w) := by
  obtain ⟨y, hy⟩ : ∃ y, A % 18446744073709551616 = y := ⟨_, rfl⟩
  have HV := Lib.hid (numV_mod wd m A y hy hA.out)
  have L := Lib.hid (Q.low_c g n p A w h (by omega))
  rw [hy] at L
  have ly : y < 18446744073709551616 := by omega
  obtain ⟨z, hz⟩ : ∃ z, (18446744073709551616 - y) % 18446744073709551616 = z := ⟨_, rfl⟩
  have N := neg_form y ly
  rw [hz] at N
  have HW : ∀ b, Hid (numV wd b y = if wd then wideV (if b then z else y) else (if b then z else y)) := fun b => by show _ = _; unfold numV; rw [hz]
  have HN := HW m
  clear hy ly hz HW
  go_enter Try.func49, Try.ntmps49
  cases m <;> cases wd
  · go_wp2_with fail
    refine L.out.mono ?_; rintro e v ⟨rfl, rfl⟩
    go_wp2_with fail
    go_ret
    exact retU_mk (by rw [HV.out, HN.out]; rfl) (by repeat (first | (with_reducible first | exact Below.refl _ _ | assumption | exact Nat.le_refl _ | refine Below.drew ?_ | refine Below.alloc ?_ ?_ _ | refine Below.setCell ?_ ?_ _ | refine le_alloc ?_ | refine le_set ?_ | refine le_drew ?_ | refine below_step (by assumption) ?_ ?_ | refine le_below (by assumption) ?_) | (dsimp only; omega)))
  · go_wp2_with fail
    refine L.out.mono ?_; rintro e v ⟨rfl, rfl⟩
    go_wp2_with fail
    refine (extend_r y _).mono ?_; rintro e v ⟨rfl, rfl⟩
    go_wp2_with fail
    go_ret
    exact retU_mk (by rw [HV.out, HN.out]; rfl) (by repeat (first | (with_reducible first | exact Below.refl _ _ | assumption | exact Nat.le_refl _ | refine Below.drew ?_ | refine Below.alloc ?_ ?_ _ | refine Below.setCell ?_ ?_ _ | refine le_alloc ?_ | refine le_set ?_ | refine le_drew ?_ | refine below_step (by assumption) ?_ ?_ | refine le_below (by assumption) ?_) | (dsimp only; omega)))
  · go_wp2_with fail
    refine L.out.mono ?_; rintro e v ⟨rfl, rfl⟩
    go_wp2_with fail
    go_ret
    exact retU_mk (by rw [HV.out, HN.out]; first | rfl | simp) (by repeat (first | (with_reducible first | exact Below.refl _ _ | assumption | exact Nat.le_refl _ | refine Below.drew ?_ | refine Below.alloc ?_ ?_ _ | refine Below.setCell ?_ ?_ _ | refine le_alloc ?_ | refine le_set ?_ | refine le_drew ?_ | refine below_step (by assumption) ?_ ?_ | refine le_below (by assumption) ?_) | (dsimp only; omega)))
  · go_wp2_with fail
    refine L.out.mono ?_; rintro e v ⟨rfl, rfl⟩
    go_wp2_with fail
    refine (extend_r z _).mono ?_; rintro e v ⟨rfl, rfl⟩
    go_wp2_with fail
    go_ret
    exact retU_mk (by rw [HV.out, HN.out]; rfl) (by repeat (first | (with_reducible first | exact Below.refl _ _ | assumption | exact Nat.le_refl _ | refine Below.drew ?_ | refine Below.alloc ?_ ?_ _ | refine Below.setCell ?_ ?_ _ | refine le_alloc ?_ | refine le_set ?_ | refine le_drew ?_ | refine below_step (by assumption) ?_ ?_ | refine le_below (by assumption) ?_) | (dsimp only; omega)))
end Go.Proofs.Yteinjalnkhfecaa
