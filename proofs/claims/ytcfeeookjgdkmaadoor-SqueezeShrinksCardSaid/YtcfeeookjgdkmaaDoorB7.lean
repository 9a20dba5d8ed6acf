/- The contracts of a row's write and read. -/
import Derived.Test.YtcfeeookjgdkmaaDoorB6
namespace Go.Proofs.YtcfeeookjgdkmaaDoor
open Go.ChangeShapes Go.WideShapes Go.ChangeAt Go.RowKit Go.Sort
set_option linter.unusedVariables false
set_option linter.unusedSimpArgs false

theorem q_u {W : World} {dd : Nat} {os : Array Obj} {f : FuncId} {args : Array Value} {n : Nat} (c : Calls Tryd.prog f args (grow (redrawn W dd) os) (RetU n (grow (redrawn W dd) os))) :
    Calls Tryd.prog f args (grow (redrawn W dd) os) fun e w'' => e = .returned (.int .u32 n) ∧ ∃ p : Regrown, w'' = grow (redrawn W p.d) p.os := Calls.regrown_of (c.mono fun _ _ h' => ⟨by rw [h'.1], h'.2⟩)
theorem q_ux {W : World} {dd : Nat} {os : Array Obj} {f : FuncId} {args : Array Value} {n : Nat} (c : Calls Tryd.prog f args (grow (redrawn W dd) os) (RetUX n (grow (redrawn W dd) os))) :
    Calls Tryd.prog f args (grow (redrawn W dd) os) fun e w'' => e = .returned (.int .u32 n) ∧ ∃ p : Regrown, w'' = grow (redrawn W p.d) p.os := Calls.regrown_of (c.mono fun _ _ h' => ⟨by rw [h'.1], h'.2 ▸ Below.refl _ _⟩)
theorem q_h {W : World} {dd : Nat} {os : Array Obj} {f : FuncId} {args : Array Value} {n : Nat} (c : Calls Tryd.prog f args (grow (redrawn W dd) os) (RetH n (grow (redrawn W dd) os))) :
    Calls Tryd.prog f args (grow (redrawn W dd) os) fun e w'' => e = .returned (.int .u16 n) ∧ ∃ p : Regrown, w'' = grow (redrawn W p.d) p.os := Calls.regrown_of (c.mono fun _ _ h' => ⟨by rw [h'.1], h'.2⟩)
theorem g_regrown {W : World} (h : G W) (dd : Nat) (os : Array Obj) : G (grow (redrawn W dd) os) := g_below h (below_regrown W dd os) h.1
set_option maxRecDepth 100000 in
set_option maxHeartbeats 2000000 in
theorem write_c (r : SRow) (hr : Hid (OkS r)) (h : Nat) (hh : Hid (h < 65536)) (w : World) (hG : Hid (G w)) : Calls Tryd.prog 22 #[.agg (cellsS r), .int .u16 h] w (RetU (writeF r h) w) := by
  obtain ⟨m, mt, s, b, k, i, f⟩ := r
  obtain ⟨o1, o2, o3, o4, o5, o6, o7⟩ := hr.out
  dsimp only at o1 o2 o3 o4 o5 o6 o7
  obtain ⟨PF, PT, PS, hc, hg, hs⟩ := imm_at i o6
  have HV : Hid (bits .or .u32 (bits .or .u32 (b : Int) (wnF k h : Nat)) (plF f (immF i h) : Nat) = ((writeF ⟨m, mt, s, b, k, i, f⟩ h : Nat) : Int)) :=
    (isU_or (isU_or ⟨rfl, o4⟩ ⟨rfl, wnF_lt k h o5⟩) ⟨rfl, plF_lt f _ (immF_lt i h o6) o7⟩).1
  have hi' : (i : Int) < 13 := by omega
  have OK := Lib.hid (And.intro o5 o7)
  have hG1 := Lib.hid (g_alloc hG.out (Obj.cells #[.int .u16 m, .int .u16 mt, .int .u16 s, .int .u32 b, .int .u8 k, .int .u8 i, .int .u8 f] 34))
  obtain ⟨c0, c1, c2⟩ := hc _ hG1.out
  clear o1 o2 o3 o4 o5 o7 hc hr
  show Calls Tryd.prog 22 #[.agg #[.int .u16 m, .int .u16 mt, .int .u16 s, .int .u32 b, .int .u8 k, .int .u8 i, .int .u8 f], .int .u16 h] w _
  go_enter Tryd.func22, Tryd.ntmps22
  go_wp2_with fail
  have a3 : (w.alloc (Obj.cells #[.int .u16 m, .int .u16 mt, .int .u16 s, .int .u32 b, .int .u8 k, .int .u8 i, .int .u8 f] 34)).cell? ⟨w.heap.size, 3, none⟩ = some (.int .u32 b) := by rw [World.cell?_alloc_at _ _ _ _ rfl]; rfl
  have Ka3 := cell_regrown a3
  have a4 : (w.alloc (Obj.cells #[.int .u16 m, .int .u16 mt, .int .u16 s, .int .u32 b, .int .u8 k, .int .u8 i, .int .u8 f] 34)).cell? ⟨w.heap.size, 4, none⟩ = some (.int .u8 k) := by rw [World.cell?_alloc_at _ _ _ _ rfl]; rfl
  have Ka4 := cell_regrown a4
  have a5 : (w.alloc (Obj.cells #[.int .u16 m, .int .u16 mt, .int .u16 s, .int .u32 b, .int .u8 k, .int .u8 i, .int .u8 f] 34)).cell? ⟨w.heap.size, 5, none⟩ = some (.int .u8 i) := by rw [World.cell?_alloc_at _ _ _ _ rfl]; rfl
  have Ka5 := cell_regrown a5
  have a6 : (w.alloc (Obj.cells #[.int .u16 m, .int .u16 mt, .int .u16 s, .int .u32 b, .int .u8 k, .int .u8 i, .int .u8 f] 34)).cell? ⟨w.heap.size, 6, none⟩ = some (.int .u8 f) := by rw [World.cell?_alloc_at _ _ _ _ rfl]; rfl
  have Ka6 := cell_regrown a6
  have Kc0 := cell_regrown c0
  have Kc1 := cell_regrown c1
  have Kc2 := cell_regrown c2
  have q0 : ∀ dd os, Calls Tryd.prog 37 #[.int .u8 k, .int .u16 h] (grow (redrawn (w.alloc (Obj.cells #[.int .u16 m, .int .u16 mt, .int .u16 s, .int .u32 b, .int .u8 k, .int .u8 i, .int .u8 f] 34)) dd) os) fun e w'' => e = .returned (.int .u32 (wnF k h : Nat)) ∧ ∃ rg : Regrown, w'' = grow (redrawn (w.alloc (Obj.cells #[.int .u16 m, .int .u16 mt, .int .u16 s, .int .u32 b, .int .u8 k, .int .u8 i, .int .u8 f] 34)) rg.d) rg.os := fun dd os => q_u (wn_c k OK.out.1 h hh _ (g_regrown hG1.out dd os))
  have q1 : ∀ dd os, Calls Tryd.prog 39 #[.agg #[.int .u16 PF, .int .u64 PT, .bool PS], .int .u16 h] (grow (redrawn (w.alloc (Obj.cells #[.int .u16 m, .int .u16 mt, .int .u16 s, .int .u32 b, .int .u8 k, .int .u8 i, .int .u8 f] 34)) dd) os) fun e w'' => e = .returned (.int .u32 (immF i h : Nat)) ∧ ∃ rg : Regrown, w'' = grow (redrawn (w.alloc (Obj.cells #[.int .u16 m, .int .u16 mt, .int .u16 s, .int .u32 b, .int .u8 k, .int .u8 i, .int .u8 f] 34)) rg.d) rg.os := fun dd os => q_u (hg h hh _ (g_regrown hG1.out dd os))
  have q2 : ∀ dd os, Calls Tryd.prog 38 #[.int .u8 f, .int .u32 (immF i h : Nat)] (grow (redrawn (w.alloc (Obj.cells #[.int .u16 m, .int .u16 mt, .int .u16 s, .int .u32 b, .int .u8 k, .int .u8 i, .int .u8 f] 34)) dd) os) fun e w'' => e = .returned (.int .u32 (plF f (immF i h) : Nat)) ∧ ∃ rg : Regrown, w'' = grow (redrawn (w.alloc (Obj.cells #[.int .u16 m, .int .u16 mt, .int .u16 s, .int .u32 b, .int .u8 k, .int .u8 i, .int .u8 f] 34)) rg.d) rg.os := fun dd os => q_ux (place_c f _ OK.out.2 (immF_lt i h o6) _)
  refine wp_region_quiet_below (by kernel_rfl) (by kernel_rfl) ?_
  repeat (go_big_quiet_step (first | (go_at_call 37; exact q0 _ _) | (go_at_call 39; exact q1 _ _) | (go_at_call 38; exact q2 _ _)))
  refine wpQuiet_nil ?_
  intro _ hw'
  obtain ⟨⟨dq, osq⟩, hw''⟩ := hw'
  subst hw''
  have hb1 := below_regrown (w.alloc (Obj.cells #[.int .u16 m, .int .u16 mt, .int .u16 s, .int .u32 b, .int .u8 k, .int .u8 i, .int .u8 f] 34)) dq osq
  generalize grow (redrawn (w.alloc (Obj.cells #[.int .u16 m, .int .u16 mt, .int .u16 s, .int .u32 b, .int .u8 k, .int .u8 i, .int .u8 f] 34)) dq) osq = w1 at hb1 ⊢
  clear c0 c1 c2 Kc0 Kc1 Kc2 a3 Ka3 a4 Ka4 a5 Ka5 a6 Ka6 q0 q1 q2
  go_wp2_with fail
  go_ret
  exact retU_mk HV.out (by repeat (first | (with_reducible first | exact Below.refl _ _ | assumption | exact Nat.le_refl _ | refine Below.drew ?_ | refine Below.alloc ?_ ?_ _ | refine Below.setCell ?_ ?_ _ | refine le_alloc ?_ | refine le_set ?_ | refine le_drew ?_ | refine below_step (by assumption) ?_ ?_ | refine le_below (by assumption) ?_) | (dsimp only; omega)))
set_option maxRecDepth 100000 in
set_option maxHeartbeats 2000000 in
theorem read_c (r : SRow) (hr : Hid (OkS r)) (x : Nat) (hh : Hid (x < 4294967296)) (w : World) (hG : Hid (G w)) : Calls Tryd.prog 36 #[.agg (cellsS r), .int .u32 x] w (RetH (readF r x) w) := by
  obtain ⟨m, mt, s, b, k, i, f⟩ := r
  obtain ⟨o1, o2, o3, o4, o5, o6, o7⟩ := hr.out
  dsimp only at o1 o2 o3 o4 o5 o6 o7
  obtain ⟨PF, PT, PS, hc, hg, hs⟩ := imm_at i o6
  have HV : Hid (bits .or .u16 (bits .or .u16 (mt : Int) (rnF k x : Nat)) (scaF i (taF f x) : Nat) = ((readF ⟨m, mt, s, b, k, i, f⟩ x : Nat) : Int)) :=
    (isH_or (isH_or ⟨rfl, o2⟩ ⟨rfl, rnF_lt k x o5⟩) ⟨rfl, scaF_lt i _ o6⟩).1
  have hi' : (i : Int) < 13 := by omega
  have OK := Lib.hid (And.intro o5 o7)
  have hG1 := Lib.hid (g_alloc hG.out (Obj.cells #[.int .u16 m, .int .u16 mt, .int .u16 s, .int .u32 b, .int .u8 k, .int .u8 i, .int .u8 f] 34))
  obtain ⟨c0, c1, c2⟩ := hc _ hG1.out
  clear o1 o2 o3 o4 o5 o7 hc hr
  show Calls Tryd.prog 36 #[.agg #[.int .u16 m, .int .u16 mt, .int .u16 s, .int .u32 b, .int .u8 k, .int .u8 i, .int .u8 f], .int .u32 x] w _
  go_enter Tryd.func36, Tryd.ntmps36
  go_wp2_with fail
  have a1 : (w.alloc (Obj.cells #[.int .u16 m, .int .u16 mt, .int .u16 s, .int .u32 b, .int .u8 k, .int .u8 i, .int .u8 f] 34)).cell? ⟨w.heap.size, 1, none⟩ = some (.int .u16 mt) := by rw [World.cell?_alloc_at _ _ _ _ rfl]; rfl
  have Ka1 := cell_regrown a1
  have a4 : (w.alloc (Obj.cells #[.int .u16 m, .int .u16 mt, .int .u16 s, .int .u32 b, .int .u8 k, .int .u8 i, .int .u8 f] 34)).cell? ⟨w.heap.size, 4, none⟩ = some (.int .u8 k) := by rw [World.cell?_alloc_at _ _ _ _ rfl]; rfl
  have Ka4 := cell_regrown a4
  have a5 : (w.alloc (Obj.cells #[.int .u16 m, .int .u16 mt, .int .u16 s, .int .u32 b, .int .u8 k, .int .u8 i, .int .u8 f] 34)).cell? ⟨w.heap.size, 5, none⟩ = some (.int .u8 i) := by rw [World.cell?_alloc_at _ _ _ _ rfl]; rfl
  have Ka5 := cell_regrown a5
  have a6 : (w.alloc (Obj.cells #[.int .u16 m, .int .u16 mt, .int .u16 s, .int .u32 b, .int .u8 k, .int .u8 i, .int .u8 f] 34)).cell? ⟨w.heap.size, 6, none⟩ = some (.int .u8 f) := by rw [World.cell?_alloc_at _ _ _ _ rfl]; rfl
  have Ka6 := cell_regrown a6
  have Kc0 := cell_regrown c0
  have Kc1 := cell_regrown c1
  have Kc2 := cell_regrown c2
  have q0 : ∀ dd os, Calls Tryd.prog 41 #[.int .u8 k, .int .u32 x] (grow (redrawn (w.alloc (Obj.cells #[.int .u16 m, .int .u16 mt, .int .u16 s, .int .u32 b, .int .u8 k, .int .u8 i, .int .u8 f] 34)) dd) os) fun e w'' => e = .returned (.int .u16 (rnF k x : Nat)) ∧ ∃ rg : Regrown, w'' = grow (redrawn (w.alloc (Obj.cells #[.int .u16 m, .int .u16 mt, .int .u16 s, .int .u32 b, .int .u8 k, .int .u8 i, .int .u8 f] 34)) rg.d) rg.os := fun dd os => q_h (rn_c k OK.out.1 x hh _ (g_regrown hG1.out dd os))
  have q1 : ∀ dd os, Calls Tryd.prog 43 #[.int .u8 f, .int .u32 x] (grow (redrawn (w.alloc (Obj.cells #[.int .u16 m, .int .u16 mt, .int .u16 s, .int .u32 b, .int .u8 k, .int .u8 i, .int .u8 f] 34)) dd) os) fun e w'' => e = .returned (.int .u32 (taF f x : Nat)) ∧ ∃ rg : Regrown, w'' = grow (redrawn (w.alloc (Obj.cells #[.int .u16 m, .int .u16 mt, .int .u16 s, .int .u32 b, .int .u8 k, .int .u8 i, .int .u8 f] 34)) rg.d) rg.os := fun dd os => q_ux (take_c f x OK.out.2 hh _)
  have q2 : ∀ dd os, Calls Tryd.prog 42 #[.agg #[.int .u16 PF, .int .u64 PT, .bool PS], .int .u32 (taF f x : Nat)] (grow (redrawn (w.alloc (Obj.cells #[.int .u16 m, .int .u16 mt, .int .u16 s, .int .u32 b, .int .u8 k, .int .u8 i, .int .u8 f] 34)) dd) os) fun e w'' => e = .returned (.int .u16 (scaF i (taF f x) : Nat)) ∧ ∃ rg : Regrown, w'' = grow (redrawn (w.alloc (Obj.cells #[.int .u16 m, .int .u16 mt, .int .u16 s, .int .u32 b, .int .u8 k, .int .u8 i, .int .u8 f] 34)) rg.d) rg.os := fun dd os => q_h (hs _ (taF_lt f x hh.out OK.out.2) _ (g_regrown hG1.out dd os))
  refine wp_region_quiet_below (by kernel_rfl) (by kernel_rfl) ?_
  repeat (go_big_quiet_step (first | (go_at_call 41; exact q0 _ _) | (go_at_call 43; exact q1 _ _) | (go_at_call 42; exact q2 _ _)))
  refine wpQuiet_nil ?_
  intro _ hw'
  obtain ⟨⟨dq, osq⟩, hw''⟩ := hw'
  subst hw''
  have hb1 := below_regrown (w.alloc (Obj.cells #[.int .u16 m, .int .u16 mt, .int .u16 s, .int .u32 b, .int .u8 k, .int .u8 i, .int .u8 f] 34)) dq osq
  generalize grow (redrawn (w.alloc (Obj.cells #[.int .u16 m, .int .u16 mt, .int .u16 s, .int .u32 b, .int .u8 k, .int .u8 i, .int .u8 f] 34)) dq) osq = w1 at hb1 ⊢
  clear c0 c1 c2 Kc0 Kc1 Kc2 a1 Ka1 a4 Ka4 a5 Ka5 a6 Ka6 q0 q1 q2
  go_wp2_with fail
  go_ret
  exact retH_mk HV.out (by repeat (first | (with_reducible first | exact Below.refl _ _ | assumption | exact Nat.le_refl _ | refine Below.drew ?_ | refine Below.alloc ?_ ?_ _ | refine Below.setCell ?_ ?_ _ | refine le_alloc ?_ | refine le_set ?_ | refine le_drew ?_ | refine below_step (by assumption) ?_ ?_ | refine le_below (by assumption) ?_) | (dsimp only; omega)))
end Go.Proofs.YtcfeeookjgdkmaaDoor
