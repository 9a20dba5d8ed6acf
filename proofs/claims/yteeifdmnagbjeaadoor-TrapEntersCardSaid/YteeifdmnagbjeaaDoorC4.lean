/- The walk of TrapEnters. -/
import Derived.Test.YteeifdmnagbjeaaDoorC3
import Derived.Test.YteeifdmnagbjeaaDoorR1
namespace Go.Proofs.YteeifdmnagbjeaaDoor
open Go.ChangeShapes Go.WideShapes Go.ChangeAt Go.RowKit Go.Sort Y
set_option linter.unusedVariables false
set_option linter.unusedSimpArgs false

set_option maxRecDepth 100000 in
set_option maxHeartbeats 1000000 in
theorem enters_walk (S D : Nat → Nat) (m : Int) (pc c v : Nat) (t : Int) (n : Nat)
    (HE : Hid (∀ u, Calls Tryd.prog 9 #[.agg (cs S), .int .i64 m, .int .u64 pc, .int .u64 c, .int .u64 v] u (RetE D t n u))) (HR : Hid (∀ u, Calls Tryd.prog 10 #[.agg (cs S), .int .i64 m, .int .u64 pc, .int .u64 c, .int .u64 v] u (RetE D t n u))) (w : World) (hG : Hid (G w)) :
    Calls Tryd.prog 3 #[.agg (cs S), .int .i64 m, .int .u64 pc, .int .u64 c, .int .u64 v] w (RetB true w) := by
  go_enter Tryd.func3, Tryd.ntmps3
  go_wp2_with fail
  refine (awake_c _ (g_alloc hG.out _)).mono ?_; rintro e w1 ⟨rfl, hb⟩
  have HG : Hid (Gs w [(w.heap.size, S)] w1) := ⟨below_step hb ((Below.refl w.heap.size w).alloc (Nat.le_refl _) _) (by rw [sz_alloc]; omega), fun p hp => by
    obtain rfl := List.mem_singleton.1 hp
    exact ⟨Nat.le_refl _, Nat.lt_of_lt_of_le (by rw [sz_alloc]; exact Nat.lt_succ_self _) hb.size, (row_new w (cs S) 26).below hb (by rw [sz_alloc]; exact Nat.lt_succ_self _)⟩⟩
  clear hb hG
  obtain ⟨cb, hcb⟩ : ∃ cb, cb = w.heap.size := ⟨_, rfl⟩
  rw [← hcb] at HG
  go_wp2_with (refine wpList_load_row rfl 26 _ rfl w.heap.size rfl 26 (cs S) (0, 0) _ (by rw [← hcb]; exact HG.out.row cb S (by simp)) Tryd.underlying26 rfl (infoS _) ?_)
  refine (HE.out _).mono ?_; rintro e w2 ⟨rfl, hb⟩
  replace HG := Lib.hid (HG.out.below hb)
  clear hb HE
  rw [← hcb]
  clear hcb
  go_upto_region 4 with (refine store_rowP (Gs w [(w2.heap.size, D), (cb, S)]) rfl 26 _ _ rfl w2.heap.size (cs D) rfl rfl 26 (cs Z38) (row_new _ _ _) (infoS _) rfl (oneS _) (gs_new HG.out D) ?_; rintro wd HD; replace HD := Lib.hid HD)
  generalize w2.heap.size = db at HD ⊢
  clear HG w2
  go_wp2_with (refine wpList_load_row rfl 26 _ rfl cb rfl 26 (cs S) (0, 0) _ (HD.out.row cb S (by simp)) Tryd.underlying26 rfl (infoS _) ?_)
  refine (HR.out _).mono ?_; rintro e w3 ⟨rfl, hb⟩
  replace HD := Lib.hid (HD.out.below hb)
  clear hb HR
  go_upto_region 5 with (refine store_rowP (Gs w [(w3.heap.size, D), (db, D), (cb, S)]) rfl 26 _ _ rfl w3.heap.size (cs D) rfl rfl 26 (cs Z38) (row_new _ _ _) (infoS _) rfl (oneS _) (gs_new HD.out D) ?_; rintro we HX; replace HX := Lib.hid HX)
  generalize w3.heap.size = eb at HX ⊢
  clear HD w3
  go_wp2_with (first | (refine wpList_load_row rfl 26 _ rfl db rfl 26 (cs D) (0, 0) _ (HX.out.row db D (by simp)) Tryd.underlying26 rfl (infoS _) ?_) | (refine wpList_load_row rfl 26 _ rfl eb rfl 26 (cs D) (0, 0) _ (HX.out.row eb D (by simp)) Tryd.underlying26 rfl (infoS _) ?_) | (refine eq_csG (by kernel_rfl) _ _ _ rfl D rfl rfl ?_))
  go_ret
  exact retB_mk (by simp) HX.out.1
theorem enters_core (S : Nat → Nat) (m : Int) (pc c v : Nat) (hS : Hid (OkS S)) (hp : Hid (pc < 18446744073709551616)) (hc : Hid (c < 18446744073709551616)) (hv : Hid (v < 18446744073709551616)) (w : World) (hG : Hid (G w)) :
    Calls Tryd.prog 3 #[.agg (cs S), .int .i64 m, .int .u64 pc, .int .u64 c, .int .u64 v] w (RetB true w) := by
  rcases tk_cases m with e | e | e
  · cases hd : delB S c
    · exact enters_walk S _ m pc c v _ _ (fun u => enterM_0 S m pc c v hS hp hc hv e hd u) (fun u => enterRM_0 S m pc c v hS hp hc hv e hd u) w hG
    · exact enters_walk S _ m pc c v _ _ (fun u => enterS_0 S m pc c v hS hp hc hv e hd u) (fun u => enterRS_0 S m pc c v hS hp hc hv e hd u) w hG
  · cases hd : delB S c
    · exact enters_walk S _ m pc c v _ _ (fun u => enterM_1 S m pc c v hS hp hc hv e hd u) (fun u => enterRM_1 S m pc c v hS hp hc hv e hd u) w hG
    · exact enters_walk S _ m pc c v _ _ (fun u => enterS_1 S m pc c v hS hp hc hv e hd u) (fun u => enterRS_1 S m pc c v hS hp hc hv e hd u) w hG
  · exact enters_walk S _ m pc c v _ _ (fun u => enterM_3 S m pc c v hS hp hc hv e u) (fun u => enterRM_3 S m pc c v hS hp hc hv e u) w hG
end Go.Proofs.YteeifdmnagbjeaaDoor
