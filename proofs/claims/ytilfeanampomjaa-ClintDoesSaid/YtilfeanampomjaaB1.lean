/- The table of the registers' parts: the literal is filled in whatever order. -/
import Derived.Test.YtilfeanampomjaaA
namespace Go.Proofs.Ytilfeanampomjaa
open Go.ChangeShapes Go.WideShapes Go.ChangeAt Go.RowKit
set_option linter.unusedVariables false
set_option linter.unusedSimpArgs false
def RetTab (W : World) (e : Ending) (w' : World) : Prop := ∃ m, e = .returned (.map (some m)) ∧ Tab w' m ∧ Below W.heap.size W w'
set_option maxRecDepth 100000 in
set_option maxHeartbeats 4000000 in
theorem parts_c (w : World) : Calls Try.prog 23 #[] w (RetTab w) := by
  have hmm := @run_makeMap Try.prog
  go_enter Try.func23, Try.ntmps23
  go_wp2_with fail
  refine wp_region_any (by kernel_rfl) ?_
  change wpAny _ _ _ _ _ _ _ (World.drew _)
  refine wpAny_take (i := 1) (v := .agg #[.int .u64 0, .int .i64 4]) rfl (by kernel_rfl) (by kernel_rfl) (by kernel_rfl) (fun _ _ _ h => h) (Or.inl ⟨by rfl, by intro w; go_simp⟩) ?_
  refine wpAny_take (i := 2) (v := .agg #[.int .i64 0, .int .i64 0, .int .u64 1]) rfl (by kernel_rfl) (by kernel_rfl) (by kernel_rfl) (fun _ _ _ h => h) (Or.inl ⟨by rfl, by intro w; go_simp⟩) ?_
  refine wpAny_take (i := 4) (v := .agg #[.int .u64 16384, .int .i64 8]) rfl (by kernel_rfl) (by kernel_rfl) (by kernel_rfl) (fun _ _ _ h => h) (Or.inl ⟨by rfl, by intro w; go_simp⟩) ?_
  refine wpAny_take (i := 5) (v := .agg #[.int .i64 1, .int .i64 0, .int .u64 18446744073709551615]) rfl (by kernel_rfl) (by kernel_rfl) (by kernel_rfl) (fun _ _ _ h => h) (Or.inl ⟨by rfl, by intro w; go_simp⟩) ?_
  refine wpAny_take (i := 7) (v := .agg #[.int .u64 16384, .int .i64 4]) rfl (by kernel_rfl) (by kernel_rfl) (by kernel_rfl) (fun _ _ _ h => h) (Or.inl ⟨by rfl, by intro w; go_simp⟩) ?_
  refine wpAny_take (i := 8) (v := .agg #[.int .i64 1, .int .i64 0, .int .u64 4294967295]) rfl (by kernel_rfl) (by kernel_rfl) (by kernel_rfl) (fun _ _ _ h => h) (Or.inl ⟨by rfl, by intro w; go_simp⟩) ?_
  refine wpAny_take (i := 10) (v := .agg #[.int .u64 16388, .int .i64 4]) rfl (by kernel_rfl) (by kernel_rfl) (by kernel_rfl) (fun _ _ _ h => h) (Or.inl ⟨by rfl, by intro w; go_simp⟩) ?_
  refine wpAny_take (i := 11) (v := .agg #[.int .i64 1, .int .i64 32, .int .u64 4294967295]) rfl (by kernel_rfl) (by kernel_rfl) (by kernel_rfl) (fun _ _ _ h => h) (Or.inl ⟨by rfl, by intro w; go_simp⟩) ?_
  refine wpAny_take (i := 13) (v := .agg #[.int .u64 49144, .int .i64 8]) rfl (by kernel_rfl) (by kernel_rfl) (by kernel_rfl) (fun _ _ _ h => h) (Or.inl ⟨by rfl, by intro w; go_simp⟩) ?_
  refine wpAny_take (i := 14) (v := .agg #[.int .i64 2, .int .i64 0, .int .u64 18446744073709551615]) rfl (by kernel_rfl) (by kernel_rfl) (by kernel_rfl) (fun _ _ _ h => h) (Or.inl ⟨by rfl, by intro w; go_simp⟩) ?_
  refine wpAny_take (i := 16) (v := .agg #[.int .u64 49144, .int .i64 4]) rfl (by kernel_rfl) (by kernel_rfl) (by kernel_rfl) (fun _ _ _ h => h) (Or.inl ⟨by rfl, by intro w; go_simp⟩) ?_
  refine wpAny_take (i := 17) (v := .agg #[.int .i64 2, .int .i64 0, .int .u64 4294967295]) rfl (by kernel_rfl) (by kernel_rfl) (by kernel_rfl) (fun _ _ _ h => h) (Or.inl ⟨by rfl, by intro w; go_simp⟩) ?_
  refine wpAny_take (i := 19) (v := .agg #[.int .u64 49148, .int .i64 4]) rfl (by kernel_rfl) (by kernel_rfl) (by kernel_rfl) (fun _ _ _ h => h) (Or.inl ⟨by rfl, by intro w; go_simp⟩) ?_
  refine wpAny_take (i := 20) (v := .agg #[.int .i64 2, .int .i64 32, .int .u64 4294967295]) rfl (by kernel_rfl) (by kernel_rfl) (by kernel_rfl) (fun _ _ _ h => h) (Or.inl ⟨by rfl, by intro w; go_simp⟩) ?_
  refine wpAny_ready (rs := [0]) (by kernel_rfl) (by simp) ?_
  refine AllReady.cons rfl (fun K hK => ?_) AllReady.nil
  go_simp
  refine hK _ _ ?_
  clear hK K
  refine wpAny_cast (fuel' := 9) (listed' := lst false false false false false false false) (by kernel_rfl) (by kernel_rfl) ?_
  refine fill (P := Try.prog) rfl (m := w.heap.size) (W := w) (Nat.le_refl _) ?_ ?_ ?_ ?_ ?_ ?_ ?_ ?_ ?_ 7 false false false false false false false rfl _ (.map []) 0 (World.ownsMap_made _ _ _ _) (by decide) part_new (by repeat (first | (with_reducible first | exact Below.refl _ _ | assumption | exact Nat.le_refl _ | refine Below.drew ?_ | refine Below.alloc ?_ ?_ _ | refine Below.setCell ?_ ?_ _ | refine le_alloc ?_ | refine le_set ?_ | refine le_drew ?_ | refine below_step (by assumption) ?_ ?_ | refine le_below (by assumption) ?_) | (dsimp only; omega)))
  · intro b0 b1 b2 b3 b4 b5 b6 h
    cases b0 <;> cases b1 <;> cases b2 <;> cases b3 <;> cases b4 <;> cases b5 <;> cases b6 <;> first | exact absurd rfl h | kernel_rfl
  · intro w1 K ⟨w', hr, hk⟩
    have hr' : (Instr.mapUpdate 50 (.map (some w.heap.size)) (.agg #[.int .u64 0, .int .i64 4]) (.agg #[.int .i64 0, .int .i64 0, .int .u64 1])).run Try.prog w1 = .ok () w' := hr
    refine wpOp_step rfl (fun K' hK' => ?_)
    go_simp
    exact hK' _ _ hk
  · intro w1 K ⟨w', hr, hk⟩
    have hr' : (Instr.mapUpdate 50 (.map (some w.heap.size)) (.agg #[.int .u64 16384, .int .i64 8]) (.agg #[.int .i64 1, .int .i64 0, .int .u64 18446744073709551615])).run Try.prog w1 = .ok () w' := hr
    refine wpOp_step rfl (fun K' hK' => ?_)
    go_simp
    exact hK' _ _ hk
  · intro w1 K ⟨w', hr, hk⟩
    have hr' : (Instr.mapUpdate 50 (.map (some w.heap.size)) (.agg #[.int .u64 16384, .int .i64 4]) (.agg #[.int .i64 1, .int .i64 0, .int .u64 4294967295])).run Try.prog w1 = .ok () w' := hr
    refine wpOp_step rfl (fun K' hK' => ?_)
    go_simp
    exact hK' _ _ hk
  · intro w1 K ⟨w', hr, hk⟩
    have hr' : (Instr.mapUpdate 50 (.map (some w.heap.size)) (.agg #[.int .u64 16388, .int .i64 4]) (.agg #[.int .i64 1, .int .i64 32, .int .u64 4294967295])).run Try.prog w1 = .ok () w' := hr
    refine wpOp_step rfl (fun K' hK' => ?_)
    go_simp
    exact hK' _ _ hk
  · intro w1 K ⟨w', hr, hk⟩
    have hr' : (Instr.mapUpdate 50 (.map (some w.heap.size)) (.agg #[.int .u64 49144, .int .i64 8]) (.agg #[.int .i64 2, .int .i64 0, .int .u64 18446744073709551615])).run Try.prog w1 = .ok () w' := hr
    refine wpOp_step rfl (fun K' hK' => ?_)
    go_simp
    exact hK' _ _ hk
  · intro w1 K ⟨w', hr, hk⟩
    have hr' : (Instr.mapUpdate 50 (.map (some w.heap.size)) (.agg #[.int .u64 49144, .int .i64 4]) (.agg #[.int .i64 2, .int .i64 0, .int .u64 4294967295])).run Try.prog w1 = .ok () w' := hr
    refine wpOp_step rfl (fun K' hK' => ?_)
    go_simp
    exact hK' _ _ hk
  · intro w1 K ⟨w', hr, hk⟩
    have hr' : (Instr.mapUpdate 50 (.map (some w.heap.size)) (.agg #[.int .u64 49148, .int .i64 4]) (.agg #[.int .i64 2, .int .i64 32, .int .u64 4294967295])).run Try.prog w1 = .ok () w' := hr
    refine wpOp_step rfl (fun K' hK' => ?_)
    go_simp
    exact hK' _ _ hk
  · intro w2 hT hB
    refine wpAny_take (i := 22) (v := .map (some w.heap.size)) rfl (by kernel_rfl) (by kernel_rfl) (by kernel_rfl) (fun _ _ _ h => h) (Or.inl ⟨by rfl, by intro w; go_simp⟩) ?_
    refine wpAny_take (i := 23) (v := .map (some w.heap.size)) rfl (by kernel_rfl) (by kernel_rfl) (by kernel_rfl) (fun _ _ _ h => h) (Or.inl ⟨by rfl, by intro w; go_simp⟩) ?_
    refine wpAny_done (by kernel_rfl) ?_ _
    go_wp2_with fail
    go_ret
    exact ⟨_, rfl, hT, hB⟩
end Go.Proofs.Ytilfeanampomjaa
