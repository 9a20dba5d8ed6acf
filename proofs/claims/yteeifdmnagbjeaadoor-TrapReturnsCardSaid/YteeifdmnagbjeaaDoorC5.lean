/- The walk of TrapReturns. -/
import Derived.Test.YteeifdmnagbjeaaDoorC3
import Derived.Test.YteeifdmnagbjeaaDoorR2
namespace Go.Proofs.YteeifdmnagbjeaaDoor
open Go.ChangeShapes Go.WideShapes Go.ChangeAt Go.RowKit Go.Sort Y
set_option linter.unusedVariables false
set_option linter.unusedSimpArgs false

set_option maxRecDepth 100000 in
set_option maxHeartbeats 1000000 in
theorem returns_walk (S D : Nat → Nat) (k : Int) (t : Int) (n : Nat)
    (HE : Hid (∀ u, Calls Tryd.prog 11 #[.agg (cs S), .int .i64 k] u (RetE D t n u))) (HR : Hid (∀ u, Calls Tryd.prog 12 #[.agg (cs S), .int .i64 k] u (RetE D t n u))) (w : World) (hG : Hid (G w)) :
    Calls Tryd.prog 4 #[.agg (cs S), .int .i64 k] w (RetB true w) := by
  go_enter Tryd.func4, Tryd.ntmps4
  go_wp2_with fail
  refine (awake_c _ (g_alloc hG.out _)).mono ?_; rintro e w1 ⟨rfl, hb⟩
  have HG : Hid (Gs w [(w.heap.size, S)] w1) := ⟨below_step hb ((Below.refl w.heap.size w).alloc (Nat.le_refl _) _) (by rw [sz_alloc]; omega), fun p hp => by
    obtain rfl := List.mem_singleton.1 hp
    exact ⟨Nat.le_refl _, Nat.lt_of_lt_of_le (by rw [sz_alloc]; exact Nat.lt_succ_self _) hb.size, (row_new w (cs S) 26).below hb (by rw [sz_alloc]; exact Nat.lt_succ_self _)⟩⟩
  clear hb hG
  obtain ⟨cb, hcb⟩ : ∃ cb, cb = w.heap.size := ⟨_, rfl⟩
  rw [← hcb] at HG
  go_wp2_with (refine wpList_load_row rfl 26 _ rfl w.heap.size rfl 26 (cs S) (0, 0) _ (by rw [← hcb]; exact HG.out.row cb S (by simp)) Tryd.underlying26 rfl (infoS _) ?_)
  refine (HE.out _).mono ?_; rintro e w2 ⟨rfl, hb⟩
  replace HG := Lib.hid (HG.out.below hb)
  clear hb HE
  rw [← hcb]
  clear hcb
  go_upto_region 4 with (refine store_rowP (Gs w [(w2.heap.size, D), (cb, S)]) rfl 26 _ _ rfl w2.heap.size (cs D) rfl rfl 26 (cs Z38) (row_new _ _ _) (infoS _) rfl (oneS _) (gs_new HG.out D) ?_; rintro wd HD; replace HD := Lib.hid HD)
  generalize w2.heap.size = db at HD ⊢
  clear HG w2
  go_wp2_with (refine wpList_load_row rfl 26 _ rfl cb rfl 26 (cs S) (0, 0) _ (HD.out.row cb S (by simp)) Tryd.underlying26 rfl (infoS _) ?_)
  refine (HR.out _).mono ?_; rintro e w3 ⟨rfl, hb⟩
  replace HD := Lib.hid (HD.out.below hb)
  clear hb HR
  go_upto_region 5 with (refine store_rowP (Gs w [(w3.heap.size, D), (db, D), (cb, S)]) rfl 26 _ _ rfl w3.heap.size (cs D) rfl rfl 26 (cs Z38) (row_new _ _ _) (infoS _) rfl (oneS _) (gs_new HD.out D) ?_; rintro we HX; replace HX := Lib.hid HX)
  generalize w3.heap.size = eb at HX ⊢
  clear HD w3
  go_wp2_with (first | (refine wpList_load_row rfl 26 _ rfl db rfl 26 (cs D) (0, 0) _ (HX.out.row db D (by simp)) Tryd.underlying26 rfl (infoS _) ?_) | (refine wpList_load_row rfl 26 _ rfl eb rfl 26 (cs D) (0, 0) _ (HX.out.row eb D (by simp)) Tryd.underlying26 rfl (infoS _) ?_) | (refine eq_csG (by kernel_rfl) _ _ _ rfl D rfl rfl ?_))
  go_ret
  exact retB_mk (by simp) HX.out.1
theorem returns_core (S : Nat → Nat) (k : Int) (hS : Hid (OkS S)) (w : World) (hG : Hid (G w)) :
    Calls Tryd.prog 4 #[.agg (cs S), .int .i64 k] w (RetB true w) := by
  by_cases h1 : k = 49
  · subst h1
    rcases tk_cases ((S 0 / 2048 % 4 : Nat) : Int) with h | h | h
    · exact returns_walk S _ 49 _ _ (fun u => retM_0 S hS h u) (fun u => retRM_0 S hS h u) w hG
    · exact returns_walk S _ 49 _ _ (fun u => retM_1 S hS h u) (fun u => retRM_1 S hS h u) w hG
    · exact returns_walk S _ 49 _ _ (fun u => retM_3 S hS h u) (fun u => retRM_3 S hS h u) w hG
  · by_cases h2 : k = 50
    · subst h2
      rcases sp_cases (S 0) with h | h
      · exact returns_walk S _ 50 _ _ (fun u => retS_0 S hS h u) (fun u => retRS_0 S hS h u) w hG
      · exact returns_walk S _ 50 _ _ (fun u => retS_1 S hS h u) (fun u => retRS_1 S hS h u) w hG
    · exact returns_walk S S k 3 0 (fun u => retN S k h1 h2 u) (fun u => retRN S k h1 h2 u) w hG
end Go.Proofs.YteeifdmnagbjeaaDoor
