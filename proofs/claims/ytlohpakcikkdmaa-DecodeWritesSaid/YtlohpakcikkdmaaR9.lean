/- The reference's rows of floats of size 8. -/
import Derived.Test.YtlohpakcikkdmaaR1
namespace Go.Proofs.Ytlohpakcikkdmaa
open Go.ChangeShapes Go.WideShapes Go.ChangeAt Go.RowKit
set_option linter.unusedVariables false
set_option linter.unusedSimpArgs false

def fl8 : List QRow := [⟨28799, 12295, 53, ⟨#[100, 49, 73]⟩, 8, false, false⟩,
  ⟨28799, 12327, 54, ⟨#[49, 50, 83]⟩, 8, false, false⟩,
  ⟨100663423, 33554499, 60, ⟨#[100, 49, 50, 51, 114]⟩, 8, false, false⟩,
  ⟨100663423, 33554503, 61, ⟨#[100, 49, 50, 51, 114]⟩, 8, false, false⟩,
  ⟨100663423, 33554507, 62, ⟨#[100, 49, 50, 51, 114]⟩, 8, false, false⟩,
  ⟨100663423, 33554511, 63, ⟨#[100, 49, 50, 51, 114]⟩, 8, false, false⟩,
  ⟨4261412991, 33554515, 55, ⟨#[100, 49, 50, 114]⟩, 8, false, false⟩,
  ⟨4261412991, 167772243, 56, ⟨#[100, 49, 50, 114]⟩, 8, false, false⟩,
  ⟨4261412991, 301989971, 57, ⟨#[100, 49, 50, 114]⟩, 8, false, false⟩,
  ⟨4261412991, 436207699, 58, ⟨#[100, 49, 50, 114]⟩, 8, false, false⟩,
  ⟨4293918847, 1509949523, 59, ⟨#[100, 49, 114]⟩, 8, false, false⟩,
  ⟨4261441663, 570425427, 64, ⟨#[100, 49, 50]⟩, 8, false, false⟩,
  ⟨4261441663, 2717917267, 69, ⟨#[100, 49, 50]⟩, 8, false, false⟩,
  ⟨4261441663, 704643155, 67, ⟨#[100, 49, 50]⟩, 8, false, false⟩,
  ⟨4261441663, 570429523, 65, ⟨#[100, 49, 50]⟩, 8, false, false⟩,
  ⟨4261441663, 2717913171, 70, ⟨#[100, 49, 50]⟩, 8, false, false⟩,
  ⟨4261441663, 704647251, 68, ⟨#[100, 49, 50]⟩, 8, false, false⟩,
  ⟨4261441663, 570433619, 66, ⟨#[100, 49, 50]⟩, 8, false, false⟩,
  ⟨4261441663, 2717909075, 71, ⟨#[100, 49, 50]⟩, 8, false, false⟩,
  ⟨4293918847, 1107296339, 75, ⟨#[100, 49, 114]⟩, 8, false, false⟩,
  ⟨4293918847, 3254779987, 73, ⟨#[100, 49, 114]⟩, 8, true, false⟩,
  ⟨4293918847, 3523215443, 74, ⟨#[100, 49, 114]⟩, 8, true, false⟩,
  ⟨4293918847, 3255828563, 73, ⟨#[100, 49, 114]⟩, 8, true, true⟩,
  ⟨4293918847, 3524264019, 74, ⟨#[100, 49, 114]⟩, 8, true, true⟩,
  ⟨4293918847, 3256877139, 73, ⟨#[100, 49, 114]⟩, 8, false, false⟩,
  ⟨4293918847, 3525312595, 74, ⟨#[100, 49, 114]⟩, 8, false, false⟩,
  ⟨4293918847, 3257925715, 73, ⟨#[100, 49, 114]⟩, 8, false, true⟩,
  ⟨4293918847, 3526361171, 74, ⟨#[100, 49, 114]⟩, 8, false, true⟩,
  ⟨4293947519, 3791650899, 76, ⟨#[100, 49]⟩, 8, false, false⟩,
  ⟨4293947519, 3791654995, 72, ⟨#[100, 49]⟩, 8, false, false⟩,
  ⟨4293947519, 4060086355, 77, ⟨#[100, 49]⟩, 8, false, false⟩]
theorem fl8_len (m : Nat) : (fl8.take m).length ≤ 500 := by rw [List.length_take]; exact Nat.le_trans (Nat.min_le_right _ _) (by decide)
set_option maxRecDepth 100000 in
set_option maxHeartbeats 8000000 in
theorem float8_c (w : World) : Calls Try.prog 29 #[.int .i64 8] w (fun e w' => ∃ v, e = .returned v ∧ OwnT w' w.heap.size v fl8 ∧ Below w.heap.size w w') := by
  have oa : ∀ v, Calls Try.prog 37 #[.int .u32 7, .int .u32 3, .int .i64 53, .string ⟨#[100, 49, 73]⟩] v (RetQ 28799 12295 53 ⟨#[100, 49, 73]⟩ 0 false false v) := fun v => op3_c 7 3 (by decide) (by decide) 53 ⟨#[100, 49, 73]⟩ v
  have ob : ∀ v, Calls Try.prog 37 #[.int .u32 39, .int .u32 3, .int .i64 54, .string ⟨#[49, 50, 83]⟩] v (RetQ 28799 12327 54 ⟨#[49, 50, 83]⟩ 0 false false v) := fun v => op3_c 39 3 (by decide) (by decide) 54 ⟨#[49, 50, 83]⟩ v
  have OA := Lib.hid oa; have OB := Lib.hid ob
  clear oa ob
  go_enter Try.func29, Try.ntmps29
  go_wp2_with fail
  refine (OA.out _).mono ?_; rintro e w1 ⟨rfl, hb1⟩
  go_wp2_with fail
  refine (sized_c _ _ _ _ _ _ _ _ _).mono ?_; rintro e w2 ⟨rfl, hb2⟩
  go_wp2_with fail
  refine (OB.out _).mono ?_; rintro e w3 ⟨rfl, hb3⟩
  go_wp2_with fail
  refine (sized_c _ _ _ _ _ _ _ _ _).mono ?_; rintro e w4 ⟨rfl, hb4⟩
  have hz1 := hb1.size; have hz2 := hb2.size; have hz3 := hb3.size; have hz4 := hb4.size
  have hb5 : Below w.heap.size w w4 := below_step hb4 (below_step hb3 (below_step hb2 hb1 (by omega)) (by omega)) (by omega)
  clear OA OB hb1 hb2 hb3 hb4
  go_wp2_with fail
  obtain ⟨B, hB⟩ : ∃ B, B = w4.heap.size + 1 := ⟨_, rfl⟩
  have hL0 : Hid (OwnT (w4.alloc (Obj.cells (cellsQs (fl8.take 2)).toArray 50)) w.heap.size (.slice (some ⟨w4.heap.size, 0, none⟩) 2 2) (fl8.take 2)) := own_built w4 w.heap.size 2 _ _ (by omega) rfl (by decide) rfl
  have hL1 := Lib.hid (own_alloc hL0.out (Obj.cells #[.int .i64 60, .int .i64 61, .int .i64 62, .int .i64 63] 3))
  have hN0 : Hid (NumsAt ((w4.alloc (Obj.cells (cellsQs (fl8.take 2)).toArray 50)).alloc (Obj.cells #[.int .i64 60, .int .i64 61, .int .i64 62, .int .i64 63] 3)) B .i64 [60, 61, 62, 63]) := by
    intro o ho
    rw [hB, World.cell?_alloc_at _ _ _ _ (sz_alloc _ _).symm]
    have : o = 0 ∨ o = 1 ∨ o = 2 ∨ o = 3 := by simp at ho; omega
    rcases this with rfl | rfl | rfl | rfl <;> rfl
  have hA0 : Hid (Apart (.slice (some ⟨w4.heap.size, 0, none⟩) 2 2) B (B + 1)) := fun k hk => by
    have : k = w4.heap.size := by simpa [Value.ownBlock] using hk.symm
    omega
  go_loopw [4, 6] (fun l i wr => ∃ k : Nat, k ≤ 4 ∧ i = .int .i64 k ∧ Hid (OwnT wr w.heap.size l (fl8.take (2 + k))) ∧ Hid (Apart l B (B + 1)) ∧ Hid (NumsAt wr B .i64 [60, 61, 62, 63]) ∧ Below w.heap.size w wr ∧ B + 1 ≤ wr.heap.size) (fun _ i _ => 4 - (intOf i).toNat)
  case atStart => exact ⟨0, by omega, rfl, hL1, hA0, hN0, (by repeat (first | (with_reducible first | exact Below.refl _ _ | assumption | exact Nat.le_refl _ | refine Below.drew ?_ | refine Below.alloc ?_ ?_ _ | refine Below.setCell ?_ ?_ _ | refine le_alloc ?_ | refine le_set ?_ | refine le_drew ?_ | refine below_step (by assumption) ?_ ?_ | refine le_below (by assumption) ?_) | (dsimp only; omega))), by simp only [sz_alloc]; omega⟩
  case round =>
    clear hL0 hL1 hN0 hA0
    obtain ⟨k, hk, rfl, hL, hA, hN, hbw, hzb⟩ := hrel
    have hz0 := hbw.size
    have hk5 : k = 0 ∨ k = 1 ∨ k = 2 ∨ k = 3 ∨ k = 4 := by omega
    clear hk
    have bB : Value.slice (some ⟨w4.heap.size + 1, 0, none⟩) 4 4 = .slice (some ⟨B, 0, none⟩) 4 4 := by rw [hB]
    rcases hk5 with rfl | rfl | rfl | rfl | rfl
    · have n1 : wr.cell? ⟨w4.heap.size + 1, 0, none⟩ = some (.int .i64 60) := by rw [← hB]; exact hN.out 0 (by decide)
      have eo0 : bits .or .u32 67 0 = 67 := by decide
      have eo1 : bits .or .u32 67 33554432 = 33554499 := by decide
      go_wp2_with (at_builtin; refine append_q rfl (.tmp 36) (.tmp 49) rfl w.heap.size u4 (fl8.take 2) (by simp [Act.eval, Act.put]) (own_alloc hL.out _) (fl8_len 2) wr.heap.size (.slice (some ⟨wr.heap.size, 0, none⟩) 1 1) [⟨100663423, 33554499, 60, ⟨#[100, 49, 50, 51, 114]⟩, 8, false, false⟩] (by simp [Act.eval, Act.put]) (own_built wr wr.heap.size 1 _ _ (Nat.le_refl _) rfl (by decide) rfl) ⟨by simp, by simp⟩ (by rw [sz_alloc]; omega) ?_; intro v7 w7 q1 q2 q3)
      obtain ⟨r1, r2, r3, r4⟩ := round_q hbw hL.out hA.out hzb q2 q3 ((Below.refl _ wr).alloc (Nat.le_refl _) _)
      have N1 := Lib.hid (r4 _ _ _ (Nat.le_refl _) (by omega) hN.out)
      have Q1 : Hid (OwnT w7 w.heap.size v7 (fl8.take 3)) := q1
      clear q1 q2 q3 r4
      go_wp2_with fail
      go_roundw
      case rel => exact ⟨1, by omega, by go_num, Q1, r3, N1, r1, by omega⟩
      case measure => simp [intOf]
    · have n1 : wr.cell? ⟨w4.heap.size + 1, 1, none⟩ = some (.int .i64 61) := by rw [← hB]; exact hN.out 1 (by decide)
      have eo0 : bits .or .u32 67 4 = 71 := by decide
      have eo1 : bits .or .u32 71 33554432 = 33554503 := by decide
      go_wp2_with (at_builtin; refine append_q rfl (.tmp 36) (.tmp 49) rfl w.heap.size u4 (fl8.take 3) (by simp [Act.eval, Act.put]) (own_alloc hL.out _) (fl8_len 3) wr.heap.size (.slice (some ⟨wr.heap.size, 0, none⟩) 1 1) [⟨100663423, 33554503, 61, ⟨#[100, 49, 50, 51, 114]⟩, 8, false, false⟩] (by simp [Act.eval, Act.put]) (own_built wr wr.heap.size 1 _ _ (Nat.le_refl _) rfl (by decide) rfl) ⟨by simp, by simp⟩ (by rw [sz_alloc]; omega) ?_; intro v7 w7 q1 q2 q3)
      obtain ⟨r1, r2, r3, r4⟩ := round_q hbw hL.out hA.out hzb q2 q3 ((Below.refl _ wr).alloc (Nat.le_refl _) _)
      have N1 := Lib.hid (r4 _ _ _ (Nat.le_refl _) (by omega) hN.out)
      have Q1 : Hid (OwnT w7 w.heap.size v7 (fl8.take 4)) := q1
      clear q1 q2 q3 r4
      go_wp2_with fail
      go_roundw
      case rel => exact ⟨2, by omega, by go_num, Q1, r3, N1, r1, by omega⟩
      case measure => simp [intOf]
    · have n1 : wr.cell? ⟨w4.heap.size + 1, 2, none⟩ = some (.int .i64 62) := by rw [← hB]; exact hN.out 2 (by decide)
      have eo0 : bits .or .u32 67 8 = 75 := by decide
      have eo1 : bits .or .u32 75 33554432 = 33554507 := by decide
      go_wp2_with (at_builtin; refine append_q rfl (.tmp 36) (.tmp 49) rfl w.heap.size u4 (fl8.take 4) (by simp [Act.eval, Act.put]) (own_alloc hL.out _) (fl8_len 4) wr.heap.size (.slice (some ⟨wr.heap.size, 0, none⟩) 1 1) [⟨100663423, 33554507, 62, ⟨#[100, 49, 50, 51, 114]⟩, 8, false, false⟩] (by simp [Act.eval, Act.put]) (own_built wr wr.heap.size 1 _ _ (Nat.le_refl _) rfl (by decide) rfl) ⟨by simp, by simp⟩ (by rw [sz_alloc]; omega) ?_; intro v7 w7 q1 q2 q3)
      obtain ⟨r1, r2, r3, r4⟩ := round_q hbw hL.out hA.out hzb q2 q3 ((Below.refl _ wr).alloc (Nat.le_refl _) _)
      have N1 := Lib.hid (r4 _ _ _ (Nat.le_refl _) (by omega) hN.out)
      have Q1 : Hid (OwnT w7 w.heap.size v7 (fl8.take 5)) := q1
      clear q1 q2 q3 r4
      go_wp2_with fail
      go_roundw
      case rel => exact ⟨3, by omega, by go_num, Q1, r3, N1, r1, by omega⟩
      case measure => simp [intOf]
    · have n1 : wr.cell? ⟨w4.heap.size + 1, 3, none⟩ = some (.int .i64 63) := by rw [← hB]; exact hN.out 3 (by decide)
      have eo0 : bits .or .u32 67 12 = 79 := by decide
      have eo1 : bits .or .u32 79 33554432 = 33554511 := by decide
      go_wp2_with (at_builtin; refine append_q rfl (.tmp 36) (.tmp 49) rfl w.heap.size u4 (fl8.take 5) (by simp [Act.eval, Act.put]) (own_alloc hL.out _) (fl8_len 5) wr.heap.size (.slice (some ⟨wr.heap.size, 0, none⟩) 1 1) [⟨100663423, 33554511, 63, ⟨#[100, 49, 50, 51, 114]⟩, 8, false, false⟩] (by simp [Act.eval, Act.put]) (own_built wr wr.heap.size 1 _ _ (Nat.le_refl _) rfl (by decide) rfl) ⟨by simp, by simp⟩ (by rw [sz_alloc]; omega) ?_; intro v7 w7 q1 q2 q3)
      obtain ⟨r1, r2, r3, r4⟩ := round_q hbw hL.out hA.out hzb q2 q3 ((Below.refl _ wr).alloc (Nat.le_refl _) _)
      have N1 := Lib.hid (r4 _ _ _ (Nat.le_refl _) (by omega) hN.out)
      have Q1 : Hid (OwnT w7 w.heap.size v7 (fl8.take 6)) := q1
      clear q1 q2 q3 r4
      go_wp2_with fail
      go_roundw
      case rel => exact ⟨4, by omega, by go_num, Q1, r3, N1, r1, by omega⟩
      case measure => simp [intOf]
    · clear hA hN
      go_wp2_with (first | (go_at_call 41; refine (func0_c 33554432 (by decide) _).mono ?_; rintro e wf ⟨rfl, hbf⟩))
      have hzf := hbf.size
      have hLf := Lib.hid (own_below hL.out hbf)
      have hbwf : Below w.heap.size w wf := below_step hbf hbw hz0
      clear hL hbw
      go_wp2_with fail
      go_loopw [4, 8] (fun l i wr => ∃ k : Nat, k ≤ 4 ∧ i = .int .i64 k ∧ Hid (OwnT wr w.heap.size l (fl8.take (6 + k))) ∧ Below w.heap.size w wr) (fun _ i _ => 4 - (intOf i).toNat)
      case atStart => exact ⟨0, by omega, rfl, hLf, hbwf⟩
      case round =>
        clear hLf hbwf
        obtain ⟨k, hk, rfl, hL, hbw⟩ := hrel
        have hz0 := hbw.size
        have hk5 : k = 0 ∨ k = 1 ∨ k = 2 ∨ k = 3 ∨ k = 4 := by omega
        clear hk
        rcases hk5 with rfl | rfl | rfl | rfl | rfl
        · skip
          have eo0 : bits .or .u32 33554515 0 = 33554515 := by decide
          go_wp2_with (at_builtin; refine append_q rfl (.tmp 57) (.tmp 67) rfl w.heap.size u4 (fl8.take 6) (by simp [Act.eval, Act.put]) (own_alloc hL.out _) (fl8_len 6) wr.heap.size (.slice (some ⟨wr.heap.size, 0, none⟩) 1 1) [⟨4261412991, 33554515, 55, ⟨#[100, 49, 50, 114]⟩, 8, false, false⟩] (by simp [Act.eval, Act.put]) (own_built wr wr.heap.size 1 _ _ (Nat.le_refl _) rfl (by decide) rfl) ⟨by simp, by simp⟩ (by rw [sz_alloc]; omega) ?_; intro v7 w7 q1 q2 q3)
          have r1 := grow_q hbw ((Below.refl _ wr).alloc (Nat.le_refl _) _) hL.out q2
          have Q1 : Hid (OwnT w7 w.heap.size v7 (fl8.take 7)) := q1
          clear q1 q2 q3
          go_wp2_with fail
          go_roundw
          case rel => exact ⟨1, by omega, by go_num, Q1, r1⟩
          case measure => simp [intOf]
        · skip
          have eo0 : bits .or .u32 33554515 134217728 = 167772243 := by decide
          go_wp2_with (at_builtin; refine append_q rfl (.tmp 57) (.tmp 67) rfl w.heap.size u4 (fl8.take 7) (by simp [Act.eval, Act.put]) (own_alloc hL.out _) (fl8_len 7) wr.heap.size (.slice (some ⟨wr.heap.size, 0, none⟩) 1 1) [⟨4261412991, 167772243, 56, ⟨#[100, 49, 50, 114]⟩, 8, false, false⟩] (by simp [Act.eval, Act.put]) (own_built wr wr.heap.size 1 _ _ (Nat.le_refl _) rfl (by decide) rfl) ⟨by simp, by simp⟩ (by rw [sz_alloc]; omega) ?_; intro v7 w7 q1 q2 q3)
          have r1 := grow_q hbw ((Below.refl _ wr).alloc (Nat.le_refl _) _) hL.out q2
          have Q1 : Hid (OwnT w7 w.heap.size v7 (fl8.take 8)) := q1
          clear q1 q2 q3
          go_wp2_with fail
          go_roundw
          case rel => exact ⟨2, by omega, by go_num, Q1, r1⟩
          case measure => simp [intOf]
        · skip
          have eo0 : bits .or .u32 33554515 268435456 = 301989971 := by decide
          go_wp2_with (at_builtin; refine append_q rfl (.tmp 57) (.tmp 67) rfl w.heap.size u4 (fl8.take 8) (by simp [Act.eval, Act.put]) (own_alloc hL.out _) (fl8_len 8) wr.heap.size (.slice (some ⟨wr.heap.size, 0, none⟩) 1 1) [⟨4261412991, 301989971, 57, ⟨#[100, 49, 50, 114]⟩, 8, false, false⟩] (by simp [Act.eval, Act.put]) (own_built wr wr.heap.size 1 _ _ (Nat.le_refl _) rfl (by decide) rfl) ⟨by simp, by simp⟩ (by rw [sz_alloc]; omega) ?_; intro v7 w7 q1 q2 q3)
          have r1 := grow_q hbw ((Below.refl _ wr).alloc (Nat.le_refl _) _) hL.out q2
          have Q1 : Hid (OwnT w7 w.heap.size v7 (fl8.take 9)) := q1
          clear q1 q2 q3
          go_wp2_with fail
          go_roundw
          case rel => exact ⟨3, by omega, by go_num, Q1, r1⟩
          case measure => simp [intOf]
        · skip
          have eo0 : bits .or .u32 33554515 402653184 = 436207699 := by decide
          go_wp2_with (at_builtin; refine append_q rfl (.tmp 57) (.tmp 67) rfl w.heap.size u4 (fl8.take 9) (by simp [Act.eval, Act.put]) (own_alloc hL.out _) (fl8_len 9) wr.heap.size (.slice (some ⟨wr.heap.size, 0, none⟩) 1 1) [⟨4261412991, 436207699, 58, ⟨#[100, 49, 50, 114]⟩, 8, false, false⟩] (by simp [Act.eval, Act.put]) (own_built wr wr.heap.size 1 _ _ (Nat.le_refl _) rfl (by decide) rfl) ⟨by simp, by simp⟩ (by rw [sz_alloc]; omega) ?_; intro v7 w7 q1 q2 q3)
          have r1 := grow_q hbw ((Below.refl _ wr).alloc (Nat.le_refl _) _) hL.out q2
          have Q1 : Hid (OwnT w7 w.heap.size v7 (fl8.take 10)) := q1
          clear q1 q2 q3
          go_wp2_with fail
          go_roundw
          case rel => exact ⟨4, by omega, by go_num, Q1, r1⟩
          case measure => simp [intOf]
        · have eo9 : bits .or .u32 33554515 1476395008 = 1509949523 := by decide
          go_wp2_with (at_builtin; refine append_q rfl (.tmp 69) (.tmp 74) rfl w.heap.size u4 (fl8.take 10) (by simp [Act.eval, Act.put]) (own_alloc hL.out _) (fl8_len 10) wr.heap.size (.slice (some ⟨wr.heap.size, 0, none⟩) 1 1) [⟨4293918847, 1509949523, 59, ⟨#[100, 49, 114]⟩, 8, false, false⟩] (by simp [Act.eval, Act.put]) (own_built wr wr.heap.size 1 _ _ (Nat.le_refl _) rfl (by decide) rfl) ⟨by simp, by simp⟩ (by rw [sz_alloc]; omega) ?_; intro v6 w6 q1 q2 q3)
          have r1 := grow_q hbw ((Below.refl _ wr).alloc (Nat.le_refl _) _) hL.out q2
          have Q1 : Hid (OwnT w6 w.heap.size v6 (fl8.take 11)) := q1
          clear q1 q2 q3 hL hbw eo9
          go_wp2_with fail
          go_loopw [4, 9] (fun l i wr => ∃ k : Nat, k ≤ 3 ∧ i = .int .u32 k ∧ Hid (OwnT wr w.heap.size l (fl8.take ([11, 14, 17, 19].getD k 0))) ∧ Below w.heap.size w wr) (fun _ i _ => 3 - (intOf i).toNat)
          case atStart => exact ⟨0, by omega, rfl, Q1, r1⟩
          case round =>
            clear Q1 r1
            obtain ⟨k, hk, rfl, hL, hbw⟩ := hrel
            have hz0 := hbw.size
            have hk5 : k = 0 ∨ k = 1 ∨ k = 2 ∨ k = 3 := by omega
            clear hk
            rcases hk5 with rfl | rfl | rfl | rfl
            · skip
              have eo0 : bits .or .u32 33554515 536870912 = 570425427 := by decide
              have eo1 : bits .or .u32 570425427 0 = 570425427 := by decide
              have eo2 : bits .or .u32 33554515 2684354560 = 2717909075 := by decide
              have eo3 : bits .or .u32 2717909075 8192 = 2717917267 := by decide
              have eo4 : bits .or .u32 33554515 671088640 = 704643155 := by decide
              have eo5 : bits .or .u32 704643155 0 = 704643155 := by decide
              go_wp2_with (first | (at_builtin; refine append_q rfl (.tmp 80) (.tmp 102) rfl w.heap.size u4 (fl8.take 11) (by simp [Act.eval, Act.put]) (own_alloc hL.out _) (fl8_len 11) wr.heap.size (.slice (some ⟨wr.heap.size, 0, none⟩) 2 2) [⟨4261441663, 570425427, 64, ⟨#[100, 49, 50]⟩, 8, false, false⟩, ⟨4261441663, 2717917267, 69, ⟨#[100, 49, 50]⟩, 8, false, false⟩] (by simp [Act.eval, Act.put]) (own_built wr wr.heap.size 2 _ _ (Nat.le_refl _) rfl (by decide) rfl) ⟨by simp, by simp⟩ (by rw [sz_alloc]; omega) ?_; intro v7 w7 q1 q2 q3; have hz7 := q2.size; rw [sz_alloc] at hz7; have r1 := grow_q hbw ((Below.refl _ wr).alloc (Nat.le_refl _) _) hL.out q2; have Q1 : Hid (OwnT w7 w.heap.size v7 (fl8.take 13)) := q1; clear q1 q2 q3) | (at_builtin; refine append_q rfl (.tmp 106) (.tmp 117) rfl w.heap.size v7 (fl8.take 13) (by simp [Act.eval, Act.put]) (own_alloc Q1.out _) (fl8_len 13) w7.heap.size (.slice (some ⟨w7.heap.size, 0, none⟩) 1 1) [⟨4261441663, 704643155, 67, ⟨#[100, 49, 50]⟩, 8, false, false⟩] (by simp [Act.eval, Act.put]) (own_built w7 w7.heap.size 1 _ _ (Nat.le_refl _) rfl (by decide) rfl) ⟨by simp, by simp⟩ (by rw [sz_alloc]; omega) ?_; intro v8 w8 q1 q2 q3))
              have r2 := grow_q r1 ((Below.refl _ w7).alloc (Nat.le_refl _) _) Q1.out q2
              have Q2 : Hid (OwnT w8 w.heap.size v8 (fl8.take 14)) := q1
              clear q1 q2 q3 r1 Q1
              go_wp2_with fail
              go_roundw
              case rel => exact ⟨1, by omega, by go_num, Q2, r2⟩
              case measure => simp [intOf]
            · skip
              have eo0 : bits .or .u32 33554515 536870912 = 570425427 := by decide
              have eo1 : bits .or .u32 570425427 4096 = 570429523 := by decide
              have eo2 : bits .or .u32 33554515 2684354560 = 2717909075 := by decide
              have eo3 : bits .or .u32 2717909075 4096 = 2717913171 := by decide
              have eo4 : bits .or .u32 33554515 671088640 = 704643155 := by decide
              have eo5 : bits .or .u32 704643155 4096 = 704647251 := by decide
              go_wp2_with (first | (at_builtin; refine append_q rfl (.tmp 80) (.tmp 102) rfl w.heap.size u4 (fl8.take 14) (by simp [Act.eval, Act.put]) (own_alloc hL.out _) (fl8_len 14) wr.heap.size (.slice (some ⟨wr.heap.size, 0, none⟩) 2 2) [⟨4261441663, 570429523, 65, ⟨#[100, 49, 50]⟩, 8, false, false⟩, ⟨4261441663, 2717913171, 70, ⟨#[100, 49, 50]⟩, 8, false, false⟩] (by simp [Act.eval, Act.put]) (own_built wr wr.heap.size 2 _ _ (Nat.le_refl _) rfl (by decide) rfl) ⟨by simp, by simp⟩ (by rw [sz_alloc]; omega) ?_; intro v7 w7 q1 q2 q3; have hz7 := q2.size; rw [sz_alloc] at hz7; have r1 := grow_q hbw ((Below.refl _ wr).alloc (Nat.le_refl _) _) hL.out q2; have Q1 : Hid (OwnT w7 w.heap.size v7 (fl8.take 16)) := q1; clear q1 q2 q3) | (at_builtin; refine append_q rfl (.tmp 106) (.tmp 117) rfl w.heap.size v7 (fl8.take 16) (by simp [Act.eval, Act.put]) (own_alloc Q1.out _) (fl8_len 16) w7.heap.size (.slice (some ⟨w7.heap.size, 0, none⟩) 1 1) [⟨4261441663, 704647251, 68, ⟨#[100, 49, 50]⟩, 8, false, false⟩] (by simp [Act.eval, Act.put]) (own_built w7 w7.heap.size 1 _ _ (Nat.le_refl _) rfl (by decide) rfl) ⟨by simp, by simp⟩ (by rw [sz_alloc]; omega) ?_; intro v8 w8 q1 q2 q3))
              have r2 := grow_q r1 ((Below.refl _ w7).alloc (Nat.le_refl _) _) Q1.out q2
              have Q2 : Hid (OwnT w8 w.heap.size v8 (fl8.take 17)) := q1
              clear q1 q2 q3 r1 Q1
              go_wp2_with fail
              go_roundw
              case rel => exact ⟨2, by omega, by go_num, Q2, r2⟩
              case measure => simp [intOf]
            · skip
              have eo0 : bits .or .u32 33554515 536870912 = 570425427 := by decide
              have eo1 : bits .or .u32 570425427 8192 = 570433619 := by decide
              have eo2 : bits .or .u32 33554515 2684354560 = 2717909075 := by decide
              have eo3 : bits .or .u32 2717909075 0 = 2717909075 := by decide
              go_wp2_with (at_builtin; refine append_q rfl (.tmp 80) (.tmp 102) rfl w.heap.size u4 (fl8.take 17) (by simp [Act.eval, Act.put]) (own_alloc hL.out _) (fl8_len 17) wr.heap.size (.slice (some ⟨wr.heap.size, 0, none⟩) 2 2) [⟨4261441663, 570433619, 66, ⟨#[100, 49, 50]⟩, 8, false, false⟩, ⟨4261441663, 2717909075, 71, ⟨#[100, 49, 50]⟩, 8, false, false⟩] (by simp [Act.eval, Act.put]) (own_built wr wr.heap.size 2 _ _ (Nat.le_refl _) rfl (by decide) rfl) ⟨by simp, by simp⟩ (by rw [sz_alloc]; omega) ?_; intro v7 w7 q1 q2 q3)
              have r2 := grow_q hbw ((Below.refl _ wr).alloc (Nat.le_refl _) _) hL.out q2
              have Q2 : Hid (OwnT w7 w.heap.size v7 (fl8.take 19)) := q1
              clear q1 q2 q3
              go_wp2_with fail
              go_roundw
              case rel => exact ⟨3, by omega, by go_num, Q2, r2⟩
              case measure => simp [intOf]
            · have eo9 : bits .or .u32 33554515 1073741824 = 1107296339 := by decide
              have eo8 : bits .or .u32 1107296339 0 = 1107296339 := by decide
              go_wp2_with (at_builtin; refine append_q rfl (.tmp 119) (.tmp 130) rfl w.heap.size u4 (fl8.take 19) (by simp [Act.eval, Act.put]) (own_alloc hL.out _) (fl8_len 19) wr.heap.size (.slice (some ⟨wr.heap.size, 0, none⟩) 1 1) [⟨4293918847, 1107296339, 75, ⟨#[100, 49, 114]⟩, 8, false, false⟩] (by simp [Act.eval, Act.put]) (own_built wr wr.heap.size 1 _ _ (Nat.le_refl _) rfl (by decide) rfl) ⟨by simp, by simp⟩ (by rw [sz_alloc]; omega) ?_; intro v6 w6 q1 q2 q3)
              have r1 := grow_q hbw ((Below.refl _ wr).alloc (Nat.le_refl _) _) hL.out q2
              have Q1 : Hid (OwnT w6 w.heap.size v6 (fl8.take 20)) := q1
              clear q1 q2 q3 hL hbw eo9 eo8
              go_wp2_with fail
              go_loopw [4, 10] (fun l i wr => ∃ k : Nat, k ≤ 4 ∧ i = .int .u32 k ∧ Hid (OwnT wr w.heap.size l (fl8.take (20 + 2 * k))) ∧ Below w.heap.size w wr) (fun _ i _ => 4 - (intOf i).toNat)
              case atStart => exact ⟨0, by omega, rfl, Q1, r1⟩
              case round =>
                clear Q1 r1
                obtain ⟨k, hk, rfl, hL, hbw⟩ := hrel
                have hz0 := hbw.size
                have hk5 : k = 0 ∨ k = 1 ∨ k = 2 ∨ k = 3 ∨ k = 4 := by omega
                clear hk
                rcases hk5 with rfl | rfl | rfl | rfl | rfl
                · skip
                  have eo0 : bits .or .u32 33554515 3221225472 = 3254779987 := by decide
                  have eo1 : bits .or .u32 3254779987 0 = 3254779987 := by decide
                  have eo2 : bits .or .u32 33554515 3489660928 = 3523215443 := by decide
                  have eo3 : bits .or .u32 3523215443 0 = 3523215443 := by decide
                  go_wp2_with (first | (at_builtin; refine append_q rfl (.tmp 136) (.tmp 149) rfl w.heap.size u4 (fl8.take 20) (by simp [Act.eval, Act.put]) (own_alloc hL.out _) (fl8_len 20) wr.heap.size (.slice (some ⟨wr.heap.size, 0, none⟩) 1 1) [⟨4293918847, 3254779987, 73, ⟨#[100, 49, 114]⟩, 8, true, false⟩] (by simp [Act.eval, Act.put]) (own_built wr wr.heap.size 1 _ _ (Nat.le_refl _) rfl (by decide) rfl) ⟨by simp, by simp⟩ (by rw [sz_alloc]; omega) ?_; intro v7 w7 q1 q2 q3; have hz7 := q2.size; rw [sz_alloc] at hz7; have r1 := grow_q hbw ((Below.refl _ wr).alloc (Nat.le_refl _) _) hL.out q2; have Q1 : Hid (OwnT w7 w.heap.size v7 (fl8.take 21)) := q1; clear q1 q2 q3) | (at_builtin; refine append_q rfl (.tmp 151) (.tmp 164) rfl w.heap.size v7 (fl8.take 21) (by simp [Act.eval, Act.put]) (own_alloc Q1.out _) (fl8_len 21) w7.heap.size (.slice (some ⟨w7.heap.size, 0, none⟩) 1 1) [⟨4293918847, 3523215443, 74, ⟨#[100, 49, 114]⟩, 8, true, false⟩] (by simp [Act.eval, Act.put]) (own_built w7 w7.heap.size 1 _ _ (Nat.le_refl _) rfl (by decide) rfl) ⟨by simp, by simp⟩ (by rw [sz_alloc]; omega) ?_; intro v8 w8 q1 q2 q3))
                  have r2 := grow_q r1 ((Below.refl _ w7).alloc (Nat.le_refl _) _) Q1.out q2
                  have Q2 : Hid (OwnT w8 w.heap.size v8 (fl8.take 22)) := q1
                  clear q1 q2 q3 r1 Q1
                  go_wp2_with fail
                  go_roundw
                  case rel => exact ⟨1, by omega, by go_num, Q2, r2⟩
                  case measure => simp [intOf]
                · skip
                  have eo0 : bits .or .u32 33554515 3221225472 = 3254779987 := by decide
                  have eo1 : bits .or .u32 3254779987 1048576 = 3255828563 := by decide
                  have eo2 : bits .or .u32 33554515 3489660928 = 3523215443 := by decide
                  have eo3 : bits .or .u32 3523215443 1048576 = 3524264019 := by decide
                  go_wp2_with (first | (at_builtin; refine append_q rfl (.tmp 136) (.tmp 149) rfl w.heap.size u4 (fl8.take 22) (by simp [Act.eval, Act.put]) (own_alloc hL.out _) (fl8_len 22) wr.heap.size (.slice (some ⟨wr.heap.size, 0, none⟩) 1 1) [⟨4293918847, 3255828563, 73, ⟨#[100, 49, 114]⟩, 8, true, true⟩] (by simp [Act.eval, Act.put]) (own_built wr wr.heap.size 1 _ _ (Nat.le_refl _) rfl (by decide) rfl) ⟨by simp, by simp⟩ (by rw [sz_alloc]; omega) ?_; intro v7 w7 q1 q2 q3; have hz7 := q2.size; rw [sz_alloc] at hz7; have r1 := grow_q hbw ((Below.refl _ wr).alloc (Nat.le_refl _) _) hL.out q2; have Q1 : Hid (OwnT w7 w.heap.size v7 (fl8.take 23)) := q1; clear q1 q2 q3) | (at_builtin; refine append_q rfl (.tmp 151) (.tmp 164) rfl w.heap.size v7 (fl8.take 23) (by simp [Act.eval, Act.put]) (own_alloc Q1.out _) (fl8_len 23) w7.heap.size (.slice (some ⟨w7.heap.size, 0, none⟩) 1 1) [⟨4293918847, 3524264019, 74, ⟨#[100, 49, 114]⟩, 8, true, true⟩] (by simp [Act.eval, Act.put]) (own_built w7 w7.heap.size 1 _ _ (Nat.le_refl _) rfl (by decide) rfl) ⟨by simp, by simp⟩ (by rw [sz_alloc]; omega) ?_; intro v8 w8 q1 q2 q3))
                  have r2 := grow_q r1 ((Below.refl _ w7).alloc (Nat.le_refl _) _) Q1.out q2
                  have Q2 : Hid (OwnT w8 w.heap.size v8 (fl8.take 24)) := q1
                  clear q1 q2 q3 r1 Q1
                  go_wp2_with fail
                  go_roundw
                  case rel => exact ⟨2, by omega, by go_num, Q2, r2⟩
                  case measure => simp [intOf]
                · skip
                  have eo0 : bits .or .u32 33554515 3221225472 = 3254779987 := by decide
                  have eo1 : bits .or .u32 3254779987 2097152 = 3256877139 := by decide
                  have eo2 : bits .or .u32 33554515 3489660928 = 3523215443 := by decide
                  have eo3 : bits .or .u32 3523215443 2097152 = 3525312595 := by decide
                  go_wp2_with (first | (at_builtin; refine append_q rfl (.tmp 136) (.tmp 149) rfl w.heap.size u4 (fl8.take 24) (by simp [Act.eval, Act.put]) (own_alloc hL.out _) (fl8_len 24) wr.heap.size (.slice (some ⟨wr.heap.size, 0, none⟩) 1 1) [⟨4293918847, 3256877139, 73, ⟨#[100, 49, 114]⟩, 8, false, false⟩] (by simp [Act.eval, Act.put]) (own_built wr wr.heap.size 1 _ _ (Nat.le_refl _) rfl (by decide) rfl) ⟨by simp, by simp⟩ (by rw [sz_alloc]; omega) ?_; intro v7 w7 q1 q2 q3; have hz7 := q2.size; rw [sz_alloc] at hz7; have r1 := grow_q hbw ((Below.refl _ wr).alloc (Nat.le_refl _) _) hL.out q2; have Q1 : Hid (OwnT w7 w.heap.size v7 (fl8.take 25)) := q1; clear q1 q2 q3) | (at_builtin; refine append_q rfl (.tmp 151) (.tmp 164) rfl w.heap.size v7 (fl8.take 25) (by simp [Act.eval, Act.put]) (own_alloc Q1.out _) (fl8_len 25) w7.heap.size (.slice (some ⟨w7.heap.size, 0, none⟩) 1 1) [⟨4293918847, 3525312595, 74, ⟨#[100, 49, 114]⟩, 8, false, false⟩] (by simp [Act.eval, Act.put]) (own_built w7 w7.heap.size 1 _ _ (Nat.le_refl _) rfl (by decide) rfl) ⟨by simp, by simp⟩ (by rw [sz_alloc]; omega) ?_; intro v8 w8 q1 q2 q3))
                  have r2 := grow_q r1 ((Below.refl _ w7).alloc (Nat.le_refl _) _) Q1.out q2
                  have Q2 : Hid (OwnT w8 w.heap.size v8 (fl8.take 26)) := q1
                  clear q1 q2 q3 r1 Q1
                  go_wp2_with fail
                  go_roundw
                  case rel => exact ⟨3, by omega, by go_num, Q2, r2⟩
                  case measure => simp [intOf]
                · skip
                  have eo0 : bits .or .u32 33554515 3221225472 = 3254779987 := by decide
                  have eo1 : bits .or .u32 3254779987 3145728 = 3257925715 := by decide
                  have eo2 : bits .or .u32 33554515 3489660928 = 3523215443 := by decide
                  have eo3 : bits .or .u32 3523215443 3145728 = 3526361171 := by decide
                  go_wp2_with (first | (at_builtin; refine append_q rfl (.tmp 136) (.tmp 149) rfl w.heap.size u4 (fl8.take 26) (by simp [Act.eval, Act.put]) (own_alloc hL.out _) (fl8_len 26) wr.heap.size (.slice (some ⟨wr.heap.size, 0, none⟩) 1 1) [⟨4293918847, 3257925715, 73, ⟨#[100, 49, 114]⟩, 8, false, true⟩] (by simp [Act.eval, Act.put]) (own_built wr wr.heap.size 1 _ _ (Nat.le_refl _) rfl (by decide) rfl) ⟨by simp, by simp⟩ (by rw [sz_alloc]; omega) ?_; intro v7 w7 q1 q2 q3; have hz7 := q2.size; rw [sz_alloc] at hz7; have r1 := grow_q hbw ((Below.refl _ wr).alloc (Nat.le_refl _) _) hL.out q2; have Q1 : Hid (OwnT w7 w.heap.size v7 (fl8.take 27)) := q1; clear q1 q2 q3) | (at_builtin; refine append_q rfl (.tmp 151) (.tmp 164) rfl w.heap.size v7 (fl8.take 27) (by simp [Act.eval, Act.put]) (own_alloc Q1.out _) (fl8_len 27) w7.heap.size (.slice (some ⟨w7.heap.size, 0, none⟩) 1 1) [⟨4293918847, 3526361171, 74, ⟨#[100, 49, 114]⟩, 8, false, true⟩] (by simp [Act.eval, Act.put]) (own_built w7 w7.heap.size 1 _ _ (Nat.le_refl _) rfl (by decide) rfl) ⟨by simp, by simp⟩ (by rw [sz_alloc]; omega) ?_; intro v8 w8 q1 q2 q3))
                  have r2 := grow_q r1 ((Below.refl _ w7).alloc (Nat.le_refl _) _) Q1.out q2
                  have Q2 : Hid (OwnT w8 w.heap.size v8 (fl8.take 28)) := q1
                  clear q1 q2 q3 r1 Q1
                  go_wp2_with fail
                  go_roundw
                  case rel => exact ⟨4, by omega, by go_num, Q2, r2⟩
                  case measure => simp [intOf]
                · skip
                  have eo0 : bits .or .u32 33554515 3758096384 = 3791650899 := by decide
                  have eo1 : bits .or .u32 3791650899 4096 = 3791654995 := by decide
                  have eo2 : bits .or .u32 33554515 4026531840 = 4060086355 := by decide
                  go_wp2_with (at_builtin; refine append_q rfl (.tmp 166) (.tmp 180) rfl w.heap.size u4 (fl8.take 28) (by simp [Act.eval, Act.put]) (own_alloc hL.out _) (fl8_len 28) wr.heap.size (.slice (some ⟨wr.heap.size, 0, none⟩) 3 3) [⟨4293947519, 3791650899, 76, ⟨#[100, 49]⟩, 8, false, false⟩, ⟨4293947519, 3791654995, 72, ⟨#[100, 49]⟩, 8, false, false⟩, ⟨4293947519, 4060086355, 77, ⟨#[100, 49]⟩, 8, false, false⟩] (by simp [Act.eval, Act.put]) (own_built wr wr.heap.size 3 _ _ (Nat.le_refl _) rfl (by decide) rfl) ⟨by simp, by simp⟩ (by rw [sz_alloc]; omega) ?_; intro v7 w7 q1 q2 q3)
                  have r1 := grow_q hbw ((Below.refl _ wr).alloc (Nat.le_refl _) _) hL.out q2
                  have Q1 : OwnT w7 w.heap.size v7 fl8 := q1
                  clear q1 q2 q3 hL hbw
                  go_wp2_with fail
                  go_ret
                  exact ⟨_, rfl, Q1, r1⟩
end Go.Proofs.Ytlohpakcikkdmaa
