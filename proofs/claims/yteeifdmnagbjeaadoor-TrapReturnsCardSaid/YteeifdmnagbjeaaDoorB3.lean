/- Enter. -/
import Derived.Test.YteeifdmnagbjeaaDoorQH
import Derived.Deep.RegionHeld
namespace Go.Proofs.YteeifdmnagbjeaaDoor
open Go.ChangeShapes Go.WideShapes Go.ChangeAt Go.RowKit Go.Sort Y
set_option linter.unusedVariables false
set_option linter.unusedSimpArgs false

/-- What Enter and Return tell: registers, a mode, a place. -/
def RetE (S : Nat → Nat) (t : Int) (n : Nat) (W : World) (e : Ending) (w' : World) : Prop := e = .returned (.tuple #[.agg (cs S), .int .i64 t, .int .u64 n]) ∧ Below W.heap.size W w'
theorem q_V {w : World} {f : FuncId} {args : Array Value} {v : Value} {dd : Nat} {os : Array Obj} (h : Calls Tryd.prog f args (grow (redrawn w dd) os) (RetV v (grow (redrawn w dd) os))) :
    Calls Tryd.prog f args (grow (redrawn w dd) os) fun e w'' => e = .returned v ∧ ∃ p : Regrown, w'' = grow (redrawn w p.d) p.os := Calls.regrown_of h
theorem results_row3 {P : Program} {fn : Func} {p x y : Tmp} {ty : TypeId} (h : fn.results = #[.cell p ty, .tmp x, .tmp y]) (tmps : Array Value) (w : World) (g : Nat) (t : TypeId) (cs : Array Value) (fr : Nat × Nat) (d : TypeDesc)
    (hp : tmps.getD p undef = .pointer (some ⟨g, 0, none⟩)) (hg : w.heap[g]? = some (.cells cs t fr))
    (hu : P.underlying ty = some d) (hd : (match d with | .struct _ | .array _ _ => true | _ => false) = true) (hi : (P.info? ty).map (·.size) = some cs.size) :
    (results fn tmps).run P w = .ok (.tuple #[.agg cs, tmps.getD x undef, tmps.getD y undef]) w := by
  have hp' : tmps[p]?.getD undef = .pointer (some ⟨g, 0, none⟩) := by simpa using hp
  simp [results, h, hp', asAddr, run_loadVar_row w g t ty cs fr d hg hu hd hi]
theorem gs_cell {w : World} {L : List (Nat × (Nat → Nat))} {cb : Nat} {S : Nat → Nat} {w1 : World} (h : Gs w ((cb, S) :: L) w1) (hl : ∀ p ∈ L, p.1 ≠ cb) (k v : Nat) (hk : isU k) : Gs w ((cb, setN S k v) :: L) (w1.setCell ⟨cb, k, none⟩ (.int .u64 (v : Nat))) := by
  have h0 := h.2 (cb, S) (List.mem_cons_self ..)
  refine ⟨h.1.setCell h0.1 _, fun p hp => ?_⟩
  rcases List.mem_cons.1 hp with rfl | hp
  · exact ⟨h0.1, by rw [sz_set]; exact h0.2.1, by have := h0.2.2.set k (.int .u64 (v : Nat)); rw [cs_set S k v hk] at this; exact this⟩
  · have hq := h.2 p (List.mem_cons_of_mem _ hp)
    exact ⟨hq.1, by rw [sz_set]; exact hq.2.1, hq.2.2.set_ne (hl p hp).symm _ _⟩
theorem gs_perm {w : World} {L L' : List (Nat × (Nat → Nat))} {w1 : World} (h : Gs w L w1) (hp : ∀ p ∈ L', p ∈ L) : Gs w L' w1 := ⟨h.1, fun p hq => h.2 p (hp p hq)⟩
theorem gs_row {w : World} {L : List (Nat × (Nat → Nat))} {db : Nat} {S0 T : Nat → Nat} {w1 : World} (h : Gs w ((db, S0) :: L) w1) (hl : ∀ p ∈ L, p.1 ≠ db) : Gs w ((db, T) :: L) (w1.setRow db (cs T)) := by
  have h0 := h.2 (db, S0) (List.mem_cons_self ..)
  refine ⟨below_setRow h.1 h0.1 _, fun p hp => ?_⟩
  rcases List.mem_cons.1 hp with rfl | hp
  · exact ⟨h0.1, by rw [sz_setRow]; exact h0.2.1, h0.2.2.setRow _⟩
  · have hq := h.2 p (List.mem_cons_of_mem _ hp)
    exact ⟨hq.1, by rw [sz_setRow]; exact hq.2.1, hq.2.2.setRow_ne (hl p hp).symm _⟩
/-- The registers behind a trap into S, into M. -/
def toS (S : Nat → Nat) (m pc c v : Nat) : Nat → Nat := setN (setN (setN (setN S 15 (pc &&& 18446744073709551614)) 16 c) 17 v) 0 (eS (S 0) m)
def toM (S : Nat → Nat) (m pc c v : Nat) : Nat → Nat := setN (setN (setN (setN S 6 (pc &&& 18446744073709551614)) 7 c) 8 v) 0 (eM (S 0) m)
set_option maxRecDepth 100000 in
set_option maxHeartbeats 1000000 in
theorem enterS_0 (S : Nat → Nat) (m : Int) (pc c v : Nat) (hS : Hid (OkS S)) (hp : Hid (pc < 18446744073709551616)) (hc : Hid (c < 18446744073709551616)) (hv : Hid (v < 18446744073709551616)) (ht : tkI m = 0) (hd : delB S c = true) (w : World) :
    Calls Tryd.prog 9 #[.agg (cs S), .int .i64 m, .int .u64 pc, .int .u64 c, .int .u64 v] w (RetE (toS S 0 pc c v) 1 (vecN (S 14) c) w) := by
  have PT : Hid (∀ u, Calls Tryd.prog 15 #[.int .i64 m] u (RetIX 0 u)) := fun u => by have := taken_c m u; rw [ht] at this; exact this
  have PF := Lib.hid (fun u => fieldsOf_1 u)
  have PE : Hid (∀ u, Calls Tryd.prog 18 #[.agg #[.int .u64 2, .int .u64 32, .int .u64 256, .int .i64 8], .int .u64 (S 0 : Nat), .int .i64 0] u (RetU (eS (S 0) 0) u)) := fun u => entS_0 (S 0) (hS.out.u 0 (by decide)) u
  have PV : Hid (∀ u, Calls Tryd.prog 19 #[.int .u64 (S 14 : Nat), .int .u64 c] u (RetUX (vecN (S 14) c) u)) := fun u => vec_c (S 14) c (hS.out.u 14 (by decide)) hc u
  have f1 := u_andNot pc 1 hp.out (by decide)
  replace f1 : bits .andNot .u64 (pc : Int) 1 = ((pc &&& 18446744073709551614 : Nat) : Int) := f1
  have PD : Hid (Calls Tryd.prog 16 #[.pointer (some ⟨w.heap.size, 0, none⟩), .int .u64 c] ((w.alloc (Obj.cells (cs S) 26)).alloc (Obj.cells (cs Z38) 26)) (RetBX true ((w.alloc (Obj.cells (cs S) 26)).alloc (Obj.cells (cs Z38) 26)))) := by
    have R := (two_rows w S Z38).1
    have := del_c S w.heap.size c hS hc _ ((R.cell 2).trans rfl) ((R.cell 3).trans rfl)
    rw [hd] at this; exact this
  obtain ⟨TT, hTT⟩ : ∃ TT, toS S 0 pc c v = TT := ⟨_, rfl⟩
  rw [hTT]
  unfold toS at hTT
  generalize pc &&& 18446744073709551614 = p at f1 hTT
  generalize eS (S 0) 0 = x at PE hTT
  have y1 : S 14 = setN (setN (setN S 15 p) 16 c) 17 v 14 := rfl
  have y0 : S 0 = setN (setN (setN S 15 p) 16 c) 17 v 0 := rfl
  have y2 : S 14 = setN (setN (setN (setN S 15 p) 16 c) 17 v) 0 x 14 := rfl
  have ga : (cs S)[15]? = some (.int .u64 (S 15 : Nat)) := rfl
  have gs1 := cs_set S 15 p (by unfold isU; decide)
  obtain ⟨Sa, hSa⟩ : ∃ Sa, setN S 15 p = Sa := ⟨_, rfl⟩
  rw [hSa] at gs1 hTT y1 y0 y2
  have gb : (cs Sa)[16]? = some (.int .u64 (Sa 16 : Nat)) := rfl
  have gs2 := cs_set Sa 16 c (by unfold isU; decide)
  obtain ⟨Sb, hSb⟩ : ∃ Sb, setN Sa 16 c = Sb := ⟨_, rfl⟩
  rw [hSb] at gs2 hTT y1 y0 y2
  have gc : (cs Sb)[17]? = some (.int .u64 (Sb 17 : Nat)) := rfl
  have gs3 := cs_set Sb 17 v (by unfold isU; decide)
  obtain ⟨Sc, hSc⟩ : ∃ Sc, setN Sb 17 v = Sc := ⟨_, rfl⟩
  rw [hSc] at gs3 hTT y1 y0 y2
  rw [y0] at PE
  have PV1 := PV
  rw [y2, hTT] at PV ⊢
  generalize vecN (TT 14) c = vn at PV ⊢
  obtain ⟨W1, hW⟩ : ∃ W1, W1 = (w.alloc (Obj.cells (cs Sc) 26)).alloc (Obj.cells (cs Z38) 26) := ⟨_, rfl⟩
  have HR : Hid (Row W1 w.heap.size 26 (cs Sc) ∧ Row W1 (w.heap.size + 1) 26 (cs Z38)) := by show _ ∧ _; rw [hW]; exact two_rows w Sc Z38
  have HB : Hid (Below w.heap.size w W1) := by show Below _ _ _; rw [hW]; exact (by repeat (first | (with_reducible first | exact Below.refl _ _ | assumption | exact Nat.le_refl _ | refine Below.drew ?_ | refine Below.alloc ?_ ?_ _ | refine Below.setCell ?_ ?_ _ | refine le_alloc ?_ | refine le_set ?_ | refine le_drew ?_ | refine below_step (by assumption) ?_ ?_ | refine le_below (by assumption) ?_) | (dsimp only; omega)))
  have HW := Lib.hid hW
  have HTT := Lib.hid hTT
  clear hW hTT hSa hSb hSc y1 y0 y2 PV1 hS hp hc hv ht hd
  go_enter Tryd.func9, Tryd.ntmps9
  go_wp2_with fail
  refine (PT.out _).mono ?_; rintro e w1 ⟨rfl, h⟩; replace h := h.symm; subst h
  go_wp2_with fail
  refine PD.out.mono ?_; rintro e w1 ⟨rfl, h⟩; replace h := h.symm; subst h
  go_wp2_with fail
  rw [show (w.alloc (Obj.cells (cs Sc) 26)).alloc (Obj.cells (cs Z38) 26) = W1 from HW.out.symm]
  have K0 := cell_regrown ((HR.out.1.cell 0).trans (show (cs Sc)[0]? = some (.int .u64 (Sc 0 : Nat)) from rfl))
  have q1 := fun dd os => q_V (w := W1) (dd := dd) (os := os) (PF.out _)
  have q2 := fun dd os => q_u (w := W1) (dd := dd) (os := os) (PE.out _)
  refine wp_region_below_head 6 1 #[true, true, true, true, true, true, false] (by kernel_rfl) (by kernel_rfl) rfl ?_
  simp only [List.take_succ_cons, List.take_zero]
  repeat (first
    | go_big_quiet_skip
    | (go_big_quiet_want; go_big_quiet_op; first | go_big_quiet_on | go_big_quiet_call ((first | (go_at_call 17; exact q1 _ _) | (go_at_call 18; exact q2 _ _)))))
  refine wpQuiet_nil ?_
  intro _ hw'
  obtain ⟨⟨dq, osq⟩, hw''⟩ := hw'
  subst hw''
  have hb := below_regrown W1 dq osq
  have hz : w.heap.size + 1 < W1.heap.size := by rw [HW.out, sz_alloc, sz_alloc]; omega
  have HR5 : Hid (Gs w [(w.heap.size + 1, Z38), (w.heap.size, Sc)] (grow (redrawn W1 dq) osq)) := ⟨below_step hb HB.out HB.out.size, fun p hp => by
    have hs := hb.size
    rcases List.mem_cons.1 hp with rfl | hp
    · exact ⟨Nat.le_succ _, Nat.lt_of_lt_of_le hz hs, HR.out.2.below hb hz⟩
    · obtain rfl := List.mem_singleton.1 hp
      exact ⟨Nat.le_refl _, Nat.lt_of_lt_of_le (Nat.lt_trans (Nat.lt_succ_self _) hz) hs, HR.out.1.below hb (Nat.lt_trans (Nat.lt_succ_self _) hz)⟩⟩
  generalize grow (redrawn W1 dq) osq = w5 at HR5 ⊢
  clear hb hz q1 q2 K0 HB HR HW PE PF
  have k0 : w5.cell? ⟨w.heap.size, 0, none⟩ = some (.int .u64 (Sc 0 : Nat)) := (HR5.out.row w.heap.size Sc (by simp)).cell 0
  have z0 : w5.frozen? ⟨w.heap.size, 0, none⟩ = false := (HR5.out.row w.heap.size Sc (by simp)).fz 0
  refine wpAny_ready (rs := [6]) (by decide +kernel) (by simp) ?_
  refine AllReady.cons rfl (fun K hK => ?_) AllReady.nil
  go_simp
  refine hK _ _ ?_
  clear hK K
  have HG : Hid (Gs w [(w.heap.size + 1, Z38), (w.heap.size, TT)] (w5.setCell ⟨w.heap.size, 0, none⟩ (.int .u64 (x : Nat)))) := by
    have := gs_cell (gs_perm (L' := [(w.heap.size, Sc), (w.heap.size + 1, Z38)]) HR5.out (by simp)) (by simp) 0 x (by unfold isU; decide)
    rw [HTT.out] at this
    exact gs_perm this (by simp)
  generalize w5.setCell ⟨w.heap.size, 0, none⟩ (.int .u64 (x : Nat)) = w6 at HG ⊢
  clear k0 z0 HR5 HTT f1 ga gb gc gs1 gs2 gs3
  refine wpAny_done (by decide +kernel) ?_ _
  go_wp2_with fail
  have HP := Lib.hid HG.out.drew
  refine wp_region_held_drew (S := Gs w [(w.heap.size, TT)]) (by kernel_rfl) HG.out.tail.drew (fun hHeld => ?_)
  refine wpAnyH_take (i := 0) (v := .agg (cs TT)) rfl (by kernel_rfl) (by kernel_rfl) (by kernel_rfl) (fun _ _ _ h => h) (Or.inl ⟨by rfl, fun w' hw' => run_load_row 26 _ rfl w.heap.size rfl 26 (cs TT) (0, 0) _ (hw'.row w.heap.size TT (by simp)) Tryd.underlying26 rfl (infoS _)⟩) hHeld ?_
  simp only [Act.put, List.setIfInBounds_toArray, List.set_cons_zero, List.set_cons_succ]
  refine wpAnyH_take (i := 1) (v := .pointer (some ⟨w.heap.size, 14, none⟩)) rfl (by kernel_rfl) (by kernel_rfl) (by kernel_rfl) (fun _ _ _ h => h) (Or.inl ⟨by rfl, fun w' hw' => by go_simp⟩) hHeld ?_
  simp only [Act.put, List.setIfInBounds_toArray, List.set_cons_zero, List.set_cons_succ]
  refine wpAnyH_take (i := 2) (v := .int .u64 (TT 14 : Nat)) rfl (by kernel_rfl) (by kernel_rfl) (by kernel_rfl) (fun _ _ _ h => h) (Or.inl ⟨by rfl, fun w' hw' => by have k9 := hw'.u w.heap.size TT (by simp) 14 (by unfold isU; decide); go_simp⟩) hHeld ?_
  simp only [Act.put, List.setIfInBounds_toArray, List.set_cons_zero, List.set_cons_succ]
  refine wpAnyH_take (i := 3) (v := .int .u64 (c : Nat)) rfl (by kernel_rfl) (by kernel_rfl) (by kernel_rfl) (fun _ _ _ h => h) (Or.inl ⟨by rfl, fun w' hw' => by go_simp⟩) hHeld ?_
  simp only [Act.put, List.setIfInBounds_toArray, List.set_cons_zero, List.set_cons_succ]
  clear hHeld
  generalize w6.drew = wy at HP ⊢
  clear HG
  refine wpAnyH_ready (rs := [4]) (by kernel_rfl) (by simp) ?_
  refine AllReadyH.cons rfl (fun K hK => ?_) (AllReadyH.nil)
  go_simp
  go_wp2_with (go_at_call 19; refine (PV.out _).mono ?_; rintro e wb ⟨rfl, h⟩; replace h := h.symm; subst h)
  refine on_to hK (fun w' => Gs w [(w.heap.size + 1, Z38), (w.heap.size, TT)] w') _ _ HP.out (fun w' h => h.tail) ?_
  intro wz1 hp
  clear hK
  replace hp := Lib.hid hp
  refine wpAnyH_ready (rs := [5]) (by kernel_rfl) (by simp) ?_
  refine AllReadyH.cons rfl (fun K hK => ?_) (AllReadyH.nil)
  rw [if_pos (by rfl)]
  refine wp_store_row 26 _ _ rfl (w.heap.size + 1) (cs TT) rfl rfl 26 (cs Z38) (hp.out.row (w.heap.size + 1) Z38 (by simp)) (infoS _) rfl (oneS _) ?_
  refine on_to hK (fun w' => Gs w [(w.heap.size + 1, TT), (w.heap.size, TT)] w') _ _ (gs_row hp.out (by simp)) (fun w' h => h.tail) ?_
  intro wz2 hp
  clear hK
  replace hp := Lib.hid hp
  refine wpAnyH_ready (rs := [6]) (by kernel_rfl) (by simp) ?_
  refine AllReadyH.cons rfl (fun K hK => ?_) (AllReadyH.nil)
  go_simp
  refine on_to hK (fun w' => Gs w [(w.heap.size + 1, TT), (w.heap.size, TT)] w') _ _ hp.out (fun w' h => h.tail) ?_
  intro wz3 hp
  clear hK
  replace hp := Lib.hid hp
  refine wpAnyH_ready (rs := [7]) (by kernel_rfl) (by simp) ?_
  refine AllReadyH.cons rfl (fun K hK => ?_) (AllReadyH.nil)
  go_simp
  refine on_to hK (fun w' => Gs w [(w.heap.size + 1, TT), (w.heap.size, TT)] w') _ _ hp.out (fun w' h => h.tail) ?_
  intro wz4 hp
  clear hK
  replace hp := Lib.hid hp
  refine wpAnyH_done (by decide +kernel) ?_ _
  go_wp2_with fail
  refine bodyPost_ret (results_row3 rfl _ _ (w.heap.size + 1) 26 (cs TT) (0, 0) _ rfl (hp.out.row (w.heap.size + 1) TT (by simp)) Tryd.underlying26 rfl (infoS _)) rfl ?_
  exact ⟨rfl, hp.out.1⟩

set_option maxRecDepth 100000 in
set_option maxHeartbeats 1000000 in
theorem enterS_1 (S : Nat → Nat) (m : Int) (pc c v : Nat) (hS : Hid (OkS S)) (hp : Hid (pc < 18446744073709551616)) (hc : Hid (c < 18446744073709551616)) (hv : Hid (v < 18446744073709551616)) (ht : tkI m = 1) (hd : delB S c = true) (w : World) :
    Calls Tryd.prog 9 #[.agg (cs S), .int .i64 m, .int .u64 pc, .int .u64 c, .int .u64 v] w (RetE (toS S 1 pc c v) 1 (vecN (S 14) c) w) := by
  have PT : Hid (∀ u, Calls Tryd.prog 15 #[.int .i64 m] u (RetIX 1 u)) := fun u => by have := taken_c m u; rw [ht] at this; exact this
  have PF := Lib.hid (fun u => fieldsOf_1 u)
  have PE : Hid (∀ u, Calls Tryd.prog 18 #[.agg #[.int .u64 2, .int .u64 32, .int .u64 256, .int .i64 8], .int .u64 (S 0 : Nat), .int .i64 1] u (RetU (eS (S 0) 1) u)) := fun u => entS_1 (S 0) (hS.out.u 0 (by decide)) u
  have PV : Hid (∀ u, Calls Tryd.prog 19 #[.int .u64 (S 14 : Nat), .int .u64 c] u (RetUX (vecN (S 14) c) u)) := fun u => vec_c (S 14) c (hS.out.u 14 (by decide)) hc u
  have f1 := u_andNot pc 1 hp.out (by decide)
  replace f1 : bits .andNot .u64 (pc : Int) 1 = ((pc &&& 18446744073709551614 : Nat) : Int) := f1
  have PD : Hid (Calls Tryd.prog 16 #[.pointer (some ⟨w.heap.size, 0, none⟩), .int .u64 c] ((w.alloc (Obj.cells (cs S) 26)).alloc (Obj.cells (cs Z38) 26)) (RetBX true ((w.alloc (Obj.cells (cs S) 26)).alloc (Obj.cells (cs Z38) 26)))) := by
    have R := (two_rows w S Z38).1
    have := del_c S w.heap.size c hS hc _ ((R.cell 2).trans rfl) ((R.cell 3).trans rfl)
    rw [hd] at this; exact this
  obtain ⟨TT, hTT⟩ : ∃ TT, toS S 1 pc c v = TT := ⟨_, rfl⟩
  rw [hTT]
  unfold toS at hTT
  generalize pc &&& 18446744073709551614 = p at f1 hTT
  generalize eS (S 0) 1 = x at PE hTT
  have y1 : S 14 = setN (setN (setN S 15 p) 16 c) 17 v 14 := rfl
  have y0 : S 0 = setN (setN (setN S 15 p) 16 c) 17 v 0 := rfl
  have y2 : S 14 = setN (setN (setN (setN S 15 p) 16 c) 17 v) 0 x 14 := rfl
  have ga : (cs S)[15]? = some (.int .u64 (S 15 : Nat)) := rfl
  have gs1 := cs_set S 15 p (by unfold isU; decide)
  obtain ⟨Sa, hSa⟩ : ∃ Sa, setN S 15 p = Sa := ⟨_, rfl⟩
  rw [hSa] at gs1 hTT y1 y0 y2
  have gb : (cs Sa)[16]? = some (.int .u64 (Sa 16 : Nat)) := rfl
  have gs2 := cs_set Sa 16 c (by unfold isU; decide)
  obtain ⟨Sb, hSb⟩ : ∃ Sb, setN Sa 16 c = Sb := ⟨_, rfl⟩
  rw [hSb] at gs2 hTT y1 y0 y2
  have gc : (cs Sb)[17]? = some (.int .u64 (Sb 17 : Nat)) := rfl
  have gs3 := cs_set Sb 17 v (by unfold isU; decide)
  obtain ⟨Sc, hSc⟩ : ∃ Sc, setN Sb 17 v = Sc := ⟨_, rfl⟩
  rw [hSc] at gs3 hTT y1 y0 y2
  rw [y0] at PE
  have PV1 := PV
  rw [y2, hTT] at PV ⊢
  generalize vecN (TT 14) c = vn at PV ⊢
  obtain ⟨W1, hW⟩ : ∃ W1, W1 = (w.alloc (Obj.cells (cs Sc) 26)).alloc (Obj.cells (cs Z38) 26) := ⟨_, rfl⟩
  have HR : Hid (Row W1 w.heap.size 26 (cs Sc) ∧ Row W1 (w.heap.size + 1) 26 (cs Z38)) := by show _ ∧ _; rw [hW]; exact two_rows w Sc Z38
  have HB : Hid (Below w.heap.size w W1) := by show Below _ _ _; rw [hW]; exact (by repeat (first | (with_reducible first | exact Below.refl _ _ | assumption | exact Nat.le_refl _ | refine Below.drew ?_ | refine Below.alloc ?_ ?_ _ | refine Below.setCell ?_ ?_ _ | refine le_alloc ?_ | refine le_set ?_ | refine le_drew ?_ | refine below_step (by assumption) ?_ ?_ | refine le_below (by assumption) ?_) | (dsimp only; omega)))
  have HW := Lib.hid hW
  have HTT := Lib.hid hTT
  clear hW hTT hSa hSb hSc y1 y0 y2 PV1 hS hp hc hv ht hd
  go_enter Tryd.func9, Tryd.ntmps9
  go_wp2_with fail
  refine (PT.out _).mono ?_; rintro e w1 ⟨rfl, h⟩; replace h := h.symm; subst h
  go_wp2_with fail
  refine PD.out.mono ?_; rintro e w1 ⟨rfl, h⟩; replace h := h.symm; subst h
  go_wp2_with fail
  rw [show (w.alloc (Obj.cells (cs Sc) 26)).alloc (Obj.cells (cs Z38) 26) = W1 from HW.out.symm]
  have K0 := cell_regrown ((HR.out.1.cell 0).trans (show (cs Sc)[0]? = some (.int .u64 (Sc 0 : Nat)) from rfl))
  have q1 := fun dd os => q_V (w := W1) (dd := dd) (os := os) (PF.out _)
  have q2 := fun dd os => q_u (w := W1) (dd := dd) (os := os) (PE.out _)
  refine wp_region_below_head 6 1 #[true, true, true, true, true, true, false] (by kernel_rfl) (by kernel_rfl) rfl ?_
  simp only [List.take_succ_cons, List.take_zero]
  repeat (first
    | go_big_quiet_skip
    | (go_big_quiet_want; go_big_quiet_op; first | go_big_quiet_on | go_big_quiet_call ((first | (go_at_call 17; exact q1 _ _) | (go_at_call 18; exact q2 _ _)))))
  refine wpQuiet_nil ?_
  intro _ hw'
  obtain ⟨⟨dq, osq⟩, hw''⟩ := hw'
  subst hw''
  have hb := below_regrown W1 dq osq
  have hz : w.heap.size + 1 < W1.heap.size := by rw [HW.out, sz_alloc, sz_alloc]; omega
  have HR5 : Hid (Gs w [(w.heap.size + 1, Z38), (w.heap.size, Sc)] (grow (redrawn W1 dq) osq)) := ⟨below_step hb HB.out HB.out.size, fun p hp => by
    have hs := hb.size
    rcases List.mem_cons.1 hp with rfl | hp
    · exact ⟨Nat.le_succ _, Nat.lt_of_lt_of_le hz hs, HR.out.2.below hb hz⟩
    · obtain rfl := List.mem_singleton.1 hp
      exact ⟨Nat.le_refl _, Nat.lt_of_lt_of_le (Nat.lt_trans (Nat.lt_succ_self _) hz) hs, HR.out.1.below hb (Nat.lt_trans (Nat.lt_succ_self _) hz)⟩⟩
  generalize grow (redrawn W1 dq) osq = w5 at HR5 ⊢
  clear hb hz q1 q2 K0 HB HR HW PE PF
  have k0 : w5.cell? ⟨w.heap.size, 0, none⟩ = some (.int .u64 (Sc 0 : Nat)) := (HR5.out.row w.heap.size Sc (by simp)).cell 0
  have z0 : w5.frozen? ⟨w.heap.size, 0, none⟩ = false := (HR5.out.row w.heap.size Sc (by simp)).fz 0
  refine wpAny_ready (rs := [6]) (by decide +kernel) (by simp) ?_
  refine AllReady.cons rfl (fun K hK => ?_) AllReady.nil
  go_simp
  refine hK _ _ ?_
  clear hK K
  have HG : Hid (Gs w [(w.heap.size + 1, Z38), (w.heap.size, TT)] (w5.setCell ⟨w.heap.size, 0, none⟩ (.int .u64 (x : Nat)))) := by
    have := gs_cell (gs_perm (L' := [(w.heap.size, Sc), (w.heap.size + 1, Z38)]) HR5.out (by simp)) (by simp) 0 x (by unfold isU; decide)
    rw [HTT.out] at this
    exact gs_perm this (by simp)
  generalize w5.setCell ⟨w.heap.size, 0, none⟩ (.int .u64 (x : Nat)) = w6 at HG ⊢
  clear k0 z0 HR5 HTT f1 ga gb gc gs1 gs2 gs3
  refine wpAny_done (by decide +kernel) ?_ _
  go_wp2_with fail
  have HP := Lib.hid HG.out.drew
  refine wp_region_held_drew (S := Gs w [(w.heap.size, TT)]) (by kernel_rfl) HG.out.tail.drew (fun hHeld => ?_)
  refine wpAnyH_take (i := 0) (v := .agg (cs TT)) rfl (by kernel_rfl) (by kernel_rfl) (by kernel_rfl) (fun _ _ _ h => h) (Or.inl ⟨by rfl, fun w' hw' => run_load_row 26 _ rfl w.heap.size rfl 26 (cs TT) (0, 0) _ (hw'.row w.heap.size TT (by simp)) Tryd.underlying26 rfl (infoS _)⟩) hHeld ?_
  simp only [Act.put, List.setIfInBounds_toArray, List.set_cons_zero, List.set_cons_succ]
  refine wpAnyH_take (i := 1) (v := .pointer (some ⟨w.heap.size, 14, none⟩)) rfl (by kernel_rfl) (by kernel_rfl) (by kernel_rfl) (fun _ _ _ h => h) (Or.inl ⟨by rfl, fun w' hw' => by go_simp⟩) hHeld ?_
  simp only [Act.put, List.setIfInBounds_toArray, List.set_cons_zero, List.set_cons_succ]
  refine wpAnyH_take (i := 2) (v := .int .u64 (TT 14 : Nat)) rfl (by kernel_rfl) (by kernel_rfl) (by kernel_rfl) (fun _ _ _ h => h) (Or.inl ⟨by rfl, fun w' hw' => by have k9 := hw'.u w.heap.size TT (by simp) 14 (by unfold isU; decide); go_simp⟩) hHeld ?_
  simp only [Act.put, List.setIfInBounds_toArray, List.set_cons_zero, List.set_cons_succ]
  refine wpAnyH_take (i := 3) (v := .int .u64 (c : Nat)) rfl (by kernel_rfl) (by kernel_rfl) (by kernel_rfl) (fun _ _ _ h => h) (Or.inl ⟨by rfl, fun w' hw' => by go_simp⟩) hHeld ?_
  simp only [Act.put, List.setIfInBounds_toArray, List.set_cons_zero, List.set_cons_succ]
  clear hHeld
  generalize w6.drew = wy at HP ⊢
  clear HG
  refine wpAnyH_ready (rs := [4]) (by kernel_rfl) (by simp) ?_
  refine AllReadyH.cons rfl (fun K hK => ?_) (AllReadyH.nil)
  go_simp
  go_wp2_with (go_at_call 19; refine (PV.out _).mono ?_; rintro e wb ⟨rfl, h⟩; replace h := h.symm; subst h)
  refine on_to hK (fun w' => Gs w [(w.heap.size + 1, Z38), (w.heap.size, TT)] w') _ _ HP.out (fun w' h => h.tail) ?_
  intro wz1 hp
  clear hK
  replace hp := Lib.hid hp
  refine wpAnyH_ready (rs := [5]) (by kernel_rfl) (by simp) ?_
  refine AllReadyH.cons rfl (fun K hK => ?_) (AllReadyH.nil)
  rw [if_pos (by rfl)]
  refine wp_store_row 26 _ _ rfl (w.heap.size + 1) (cs TT) rfl rfl 26 (cs Z38) (hp.out.row (w.heap.size + 1) Z38 (by simp)) (infoS _) rfl (oneS _) ?_
  refine on_to hK (fun w' => Gs w [(w.heap.size + 1, TT), (w.heap.size, TT)] w') _ _ (gs_row hp.out (by simp)) (fun w' h => h.tail) ?_
  intro wz2 hp
  clear hK
  replace hp := Lib.hid hp
  refine wpAnyH_ready (rs := [6]) (by kernel_rfl) (by simp) ?_
  refine AllReadyH.cons rfl (fun K hK => ?_) (AllReadyH.nil)
  go_simp
  refine on_to hK (fun w' => Gs w [(w.heap.size + 1, TT), (w.heap.size, TT)] w') _ _ hp.out (fun w' h => h.tail) ?_
  intro wz3 hp
  clear hK
  replace hp := Lib.hid hp
  refine wpAnyH_ready (rs := [7]) (by kernel_rfl) (by simp) ?_
  refine AllReadyH.cons rfl (fun K hK => ?_) (AllReadyH.nil)
  go_simp
  refine on_to hK (fun w' => Gs w [(w.heap.size + 1, TT), (w.heap.size, TT)] w') _ _ hp.out (fun w' h => h.tail) ?_
  intro wz4 hp
  clear hK
  replace hp := Lib.hid hp
  refine wpAnyH_done (by decide +kernel) ?_ _
  go_wp2_with fail
  refine bodyPost_ret (results_row3 rfl _ _ (w.heap.size + 1) 26 (cs TT) (0, 0) _ rfl (hp.out.row (w.heap.size + 1) TT (by simp)) Tryd.underlying26 rfl (infoS _)) rfl ?_
  exact ⟨rfl, hp.out.1⟩

set_option maxRecDepth 100000 in
set_option maxHeartbeats 1000000 in
theorem enterM_0 (S : Nat → Nat) (m : Int) (pc c v : Nat) (hS : Hid (OkS S)) (hp : Hid (pc < 18446744073709551616)) (hc : Hid (c < 18446744073709551616)) (hv : Hid (v < 18446744073709551616)) (ht : tkI m = 0) (hd : delB S c = false) (w : World) :
    Calls Tryd.prog 9 #[.agg (cs S), .int .i64 m, .int .u64 pc, .int .u64 c, .int .u64 v] w (RetE (toM S 0 pc c v) 3 (vecN (S 1) c) w) := by
  have PT : Hid (∀ u, Calls Tryd.prog 15 #[.int .i64 m] u (RetIX 0 u)) := fun u => by have := taken_c m u; rw [ht] at this; exact this
  have PF := Lib.hid (fun u => fieldsOf_3 u)
  have PE : Hid (∀ u, Calls Tryd.prog 18 #[.agg #[.int .u64 8, .int .u64 128, .int .u64 6144, .int .i64 11], .int .u64 (S 0 : Nat), .int .i64 0] u (RetU (eM (S 0) 0) u)) := fun u => entM_0 (S 0) (hS.out.u 0 (by decide)) u
  have PV : Hid (∀ u, Calls Tryd.prog 19 #[.int .u64 (S 1 : Nat), .int .u64 c] u (RetUX (vecN (S 1) c) u)) := fun u => vec_c (S 1) c (hS.out.u 1 (by decide)) hc u
  have f1 := u_andNot pc 1 hp.out (by decide)
  replace f1 : bits .andNot .u64 (pc : Int) 1 = ((pc &&& 18446744073709551614 : Nat) : Int) := f1
  have PD : Hid (Calls Tryd.prog 16 #[.pointer (some ⟨w.heap.size, 0, none⟩), .int .u64 c] ((w.alloc (Obj.cells (cs S) 26)).alloc (Obj.cells (cs Z38) 26)) (RetBX false ((w.alloc (Obj.cells (cs S) 26)).alloc (Obj.cells (cs Z38) 26)))) := by
    have R := (two_rows w S Z38).1
    have := del_c S w.heap.size c hS hc _ ((R.cell 2).trans rfl) ((R.cell 3).trans rfl)
    rw [hd] at this; exact this
  obtain ⟨TT, hTT⟩ : ∃ TT, toM S 0 pc c v = TT := ⟨_, rfl⟩
  rw [hTT]
  unfold toM at hTT
  generalize pc &&& 18446744073709551614 = p at f1 hTT
  generalize eM (S 0) 0 = x at PE hTT
  have y1 : S 1 = setN (setN (setN S 6 p) 7 c) 8 v 1 := rfl
  have y0 : S 0 = setN (setN (setN S 6 p) 7 c) 8 v 0 := rfl
  have y2 : S 1 = setN (setN (setN (setN S 6 p) 7 c) 8 v) 0 x 1 := rfl
  have ga : (cs S)[6]? = some (.int .u64 (S 6 : Nat)) := rfl
  have gs1 := cs_set S 6 p (by unfold isU; decide)
  obtain ⟨Sa, hSa⟩ : ∃ Sa, setN S 6 p = Sa := ⟨_, rfl⟩
  rw [hSa] at gs1 hTT y1 y0 y2
  have gb : (cs Sa)[7]? = some (.int .u64 (Sa 7 : Nat)) := rfl
  have gs2 := cs_set Sa 7 c (by unfold isU; decide)
  obtain ⟨Sb, hSb⟩ : ∃ Sb, setN Sa 7 c = Sb := ⟨_, rfl⟩
  rw [hSb] at gs2 hTT y1 y0 y2
  have gc : (cs Sb)[8]? = some (.int .u64 (Sb 8 : Nat)) := rfl
  have gs3 := cs_set Sb 8 v (by unfold isU; decide)
  obtain ⟨Sc, hSc⟩ : ∃ Sc, setN Sb 8 v = Sc := ⟨_, rfl⟩
  rw [hSc] at gs3 hTT y1 y0 y2
  rw [y0] at PE
  have PV1 := PV
  rw [y2, hTT] at PV ⊢
  generalize vecN (TT 1) c = vn at PV ⊢
  obtain ⟨W1, hW⟩ : ∃ W1, W1 = (w.alloc (Obj.cells (cs Sc) 26)).alloc (Obj.cells (cs Z38) 26) := ⟨_, rfl⟩
  have HR : Hid (Row W1 w.heap.size 26 (cs Sc) ∧ Row W1 (w.heap.size + 1) 26 (cs Z38)) := by show _ ∧ _; rw [hW]; exact two_rows w Sc Z38
  have HB : Hid (Below w.heap.size w W1) := by show Below _ _ _; rw [hW]; exact (by repeat (first | (with_reducible first | exact Below.refl _ _ | assumption | exact Nat.le_refl _ | refine Below.drew ?_ | refine Below.alloc ?_ ?_ _ | refine Below.setCell ?_ ?_ _ | refine le_alloc ?_ | refine le_set ?_ | refine le_drew ?_ | refine below_step (by assumption) ?_ ?_ | refine le_below (by assumption) ?_) | (dsimp only; omega)))
  have HW := Lib.hid hW
  have HTT := Lib.hid hTT
  clear hW hTT hSa hSb hSc y1 y0 y2 PV1 hS hp hc hv ht hd
  go_enter Tryd.func9, Tryd.ntmps9
  go_wp2_with fail
  refine (PT.out _).mono ?_; rintro e w1 ⟨rfl, h⟩; replace h := h.symm; subst h
  go_wp2_with fail
  refine PD.out.mono ?_; rintro e w1 ⟨rfl, h⟩; replace h := h.symm; subst h
  go_wp2_with fail
  rw [show (w.alloc (Obj.cells (cs Sc) 26)).alloc (Obj.cells (cs Z38) 26) = W1 from HW.out.symm]
  have K0 := cell_regrown ((HR.out.1.cell 0).trans (show (cs Sc)[0]? = some (.int .u64 (Sc 0 : Nat)) from rfl))
  have q1 := fun dd os => q_V (w := W1) (dd := dd) (os := os) (PF.out _)
  have q2 := fun dd os => q_u (w := W1) (dd := dd) (os := os) (PE.out _)
  refine wp_region_below_head 6 1 #[true, true, true, true, true, true, false] (by kernel_rfl) (by kernel_rfl) rfl ?_
  simp only [List.take_succ_cons, List.take_zero]
  repeat (first
    | go_big_quiet_skip
    | (go_big_quiet_want; go_big_quiet_op; first | go_big_quiet_on | go_big_quiet_call ((first | (go_at_call 17; exact q1 _ _) | (go_at_call 18; exact q2 _ _)))))
  refine wpQuiet_nil ?_
  intro _ hw'
  obtain ⟨⟨dq, osq⟩, hw''⟩ := hw'
  subst hw''
  have hb := below_regrown W1 dq osq
  have hz : w.heap.size + 1 < W1.heap.size := by rw [HW.out, sz_alloc, sz_alloc]; omega
  have HR5 : Hid (Gs w [(w.heap.size + 1, Z38), (w.heap.size, Sc)] (grow (redrawn W1 dq) osq)) := ⟨below_step hb HB.out HB.out.size, fun p hp => by
    have hs := hb.size
    rcases List.mem_cons.1 hp with rfl | hp
    · exact ⟨Nat.le_succ _, Nat.lt_of_lt_of_le hz hs, HR.out.2.below hb hz⟩
    · obtain rfl := List.mem_singleton.1 hp
      exact ⟨Nat.le_refl _, Nat.lt_of_lt_of_le (Nat.lt_trans (Nat.lt_succ_self _) hz) hs, HR.out.1.below hb (Nat.lt_trans (Nat.lt_succ_self _) hz)⟩⟩
  generalize grow (redrawn W1 dq) osq = w5 at HR5 ⊢
  clear hb hz q1 q2 K0 HB HR HW PE PF
  have k0 : w5.cell? ⟨w.heap.size, 0, none⟩ = some (.int .u64 (Sc 0 : Nat)) := (HR5.out.row w.heap.size Sc (by simp)).cell 0
  have z0 : w5.frozen? ⟨w.heap.size, 0, none⟩ = false := (HR5.out.row w.heap.size Sc (by simp)).fz 0
  refine wpAny_ready (rs := [6]) (by decide +kernel) (by simp) ?_
  refine AllReady.cons rfl (fun K hK => ?_) AllReady.nil
  go_simp
  refine hK _ _ ?_
  clear hK K
  have HG : Hid (Gs w [(w.heap.size + 1, Z38), (w.heap.size, TT)] (w5.setCell ⟨w.heap.size, 0, none⟩ (.int .u64 (x : Nat)))) := by
    have := gs_cell (gs_perm (L' := [(w.heap.size, Sc), (w.heap.size + 1, Z38)]) HR5.out (by simp)) (by simp) 0 x (by unfold isU; decide)
    rw [HTT.out] at this
    exact gs_perm this (by simp)
  generalize w5.setCell ⟨w.heap.size, 0, none⟩ (.int .u64 (x : Nat)) = w6 at HG ⊢
  clear k0 z0 HR5 HTT f1 ga gb gc gs1 gs2 gs3
  refine wpAny_done (by decide +kernel) ?_ _
  go_wp2_with fail
  have HP := Lib.hid HG.out.drew
  refine wp_region_held_drew (S := Gs w [(w.heap.size, TT)]) (by kernel_rfl) HG.out.tail.drew (fun hHeld => ?_)
  refine wpAnyH_take (i := 0) (v := .agg (cs TT)) rfl (by kernel_rfl) (by kernel_rfl) (by kernel_rfl) (fun _ _ _ h => h) (Or.inl ⟨by rfl, fun w' hw' => run_load_row 26 _ rfl w.heap.size rfl 26 (cs TT) (0, 0) _ (hw'.row w.heap.size TT (by simp)) Tryd.underlying26 rfl (infoS _)⟩) hHeld ?_
  simp only [Act.put, List.setIfInBounds_toArray, List.set_cons_zero, List.set_cons_succ]
  refine wpAnyH_take (i := 1) (v := .pointer (some ⟨w.heap.size, 1, none⟩)) rfl (by kernel_rfl) (by kernel_rfl) (by kernel_rfl) (fun _ _ _ h => h) (Or.inl ⟨by rfl, fun w' hw' => by go_simp⟩) hHeld ?_
  simp only [Act.put, List.setIfInBounds_toArray, List.set_cons_zero, List.set_cons_succ]
  refine wpAnyH_take (i := 2) (v := .int .u64 (TT 1 : Nat)) rfl (by kernel_rfl) (by kernel_rfl) (by kernel_rfl) (fun _ _ _ h => h) (Or.inl ⟨by rfl, fun w' hw' => by have k9 := hw'.u w.heap.size TT (by simp) 1 (by unfold isU; decide); go_simp⟩) hHeld ?_
  simp only [Act.put, List.setIfInBounds_toArray, List.set_cons_zero, List.set_cons_succ]
  refine wpAnyH_take (i := 3) (v := .int .u64 (c : Nat)) rfl (by kernel_rfl) (by kernel_rfl) (by kernel_rfl) (fun _ _ _ h => h) (Or.inl ⟨by rfl, fun w' hw' => by go_simp⟩) hHeld ?_
  simp only [Act.put, List.setIfInBounds_toArray, List.set_cons_zero, List.set_cons_succ]
  clear hHeld
  generalize w6.drew = wy at HP ⊢
  clear HG
  refine wpAnyH_ready (rs := [4]) (by kernel_rfl) (by simp) ?_
  refine AllReadyH.cons rfl (fun K hK => ?_) (AllReadyH.nil)
  go_simp
  go_wp2_with (go_at_call 19; refine (PV.out _).mono ?_; rintro e wb ⟨rfl, h⟩; replace h := h.symm; subst h)
  refine on_to hK (fun w' => Gs w [(w.heap.size + 1, Z38), (w.heap.size, TT)] w') _ _ HP.out (fun w' h => h.tail) ?_
  intro wz1 hp
  clear hK
  replace hp := Lib.hid hp
  refine wpAnyH_ready (rs := [5]) (by kernel_rfl) (by simp) ?_
  refine AllReadyH.cons rfl (fun K hK => ?_) (AllReadyH.nil)
  rw [if_pos (by rfl)]
  refine wp_store_row 26 _ _ rfl (w.heap.size + 1) (cs TT) rfl rfl 26 (cs Z38) (hp.out.row (w.heap.size + 1) Z38 (by simp)) (infoS _) rfl (oneS _) ?_
  refine on_to hK (fun w' => Gs w [(w.heap.size + 1, TT), (w.heap.size, TT)] w') _ _ (gs_row hp.out (by simp)) (fun w' h => h.tail) ?_
  intro wz2 hp
  clear hK
  replace hp := Lib.hid hp
  refine wpAnyH_ready (rs := [6]) (by kernel_rfl) (by simp) ?_
  refine AllReadyH.cons rfl (fun K hK => ?_) (AllReadyH.nil)
  go_simp
  refine on_to hK (fun w' => Gs w [(w.heap.size + 1, TT), (w.heap.size, TT)] w') _ _ hp.out (fun w' h => h.tail) ?_
  intro wz3 hp
  clear hK
  replace hp := Lib.hid hp
  refine wpAnyH_ready (rs := [7]) (by kernel_rfl) (by simp) ?_
  refine AllReadyH.cons rfl (fun K hK => ?_) (AllReadyH.nil)
  go_simp
  refine on_to hK (fun w' => Gs w [(w.heap.size + 1, TT), (w.heap.size, TT)] w') _ _ hp.out (fun w' h => h.tail) ?_
  intro wz4 hp
  clear hK
  replace hp := Lib.hid hp
  refine wpAnyH_done (by decide +kernel) ?_ _
  go_wp2_with fail
  refine bodyPost_ret (results_row3 rfl _ _ (w.heap.size + 1) 26 (cs TT) (0, 0) _ rfl (hp.out.row (w.heap.size + 1) TT (by simp)) Tryd.underlying26 rfl (infoS _)) rfl ?_
  exact ⟨rfl, hp.out.1⟩

set_option maxRecDepth 100000 in
set_option maxHeartbeats 1000000 in
theorem enterM_1 (S : Nat → Nat) (m : Int) (pc c v : Nat) (hS : Hid (OkS S)) (hp : Hid (pc < 18446744073709551616)) (hc : Hid (c < 18446744073709551616)) (hv : Hid (v < 18446744073709551616)) (ht : tkI m = 1) (hd : delB S c = false) (w : World) :
    Calls Tryd.prog 9 #[.agg (cs S), .int .i64 m, .int .u64 pc, .int .u64 c, .int .u64 v] w (RetE (toM S 1 pc c v) 3 (vecN (S 1) c) w) := by
  have PT : Hid (∀ u, Calls Tryd.prog 15 #[.int .i64 m] u (RetIX 1 u)) := fun u => by have := taken_c m u; rw [ht] at this; exact this
  have PF := Lib.hid (fun u => fieldsOf_3 u)
  have PE : Hid (∀ u, Calls Tryd.prog 18 #[.agg #[.int .u64 8, .int .u64 128, .int .u64 6144, .int .i64 11], .int .u64 (S 0 : Nat), .int .i64 1] u (RetU (eM (S 0) 1) u)) := fun u => entM_1 (S 0) (hS.out.u 0 (by decide)) u
  have PV : Hid (∀ u, Calls Tryd.prog 19 #[.int .u64 (S 1 : Nat), .int .u64 c] u (RetUX (vecN (S 1) c) u)) := fun u => vec_c (S 1) c (hS.out.u 1 (by decide)) hc u
  have f1 := u_andNot pc 1 hp.out (by decide)
  replace f1 : bits .andNot .u64 (pc : Int) 1 = ((pc &&& 18446744073709551614 : Nat) : Int) := f1
  have PD : Hid (Calls Tryd.prog 16 #[.pointer (some ⟨w.heap.size, 0, none⟩), .int .u64 c] ((w.alloc (Obj.cells (cs S) 26)).alloc (Obj.cells (cs Z38) 26)) (RetBX false ((w.alloc (Obj.cells (cs S) 26)).alloc (Obj.cells (cs Z38) 26)))) := by
    have R := (two_rows w S Z38).1
    have := del_c S w.heap.size c hS hc _ ((R.cell 2).trans rfl) ((R.cell 3).trans rfl)
    rw [hd] at this; exact this
  obtain ⟨TT, hTT⟩ : ∃ TT, toM S 1 pc c v = TT := ⟨_, rfl⟩
  rw [hTT]
  unfold toM at hTT
  generalize pc &&& 18446744073709551614 = p at f1 hTT
  generalize eM (S 0) 1 = x at PE hTT
  have y1 : S 1 = setN (setN (setN S 6 p) 7 c) 8 v 1 := rfl
  have y0 : S 0 = setN (setN (setN S 6 p) 7 c) 8 v 0 := rfl
  have y2 : S 1 = setN (setN (setN (setN S 6 p) 7 c) 8 v) 0 x 1 := rfl
  have ga : (cs S)[6]? = some (.int .u64 (S 6 : Nat)) := rfl
  have gs1 := cs_set S 6 p (by unfold isU; decide)
  obtain ⟨Sa, hSa⟩ : ∃ Sa, setN S 6 p = Sa := ⟨_, rfl⟩
  rw [hSa] at gs1 hTT y1 y0 y2
  have gb : (cs Sa)[7]? = some (.int .u64 (Sa 7 : Nat)) := rfl
  have gs2 := cs_set Sa 7 c (by unfold isU; decide)
  obtain ⟨Sb, hSb⟩ : ∃ Sb, setN Sa 7 c = Sb := ⟨_, rfl⟩
  rw [hSb] at gs2 hTT y1 y0 y2
  have gc : (cs Sb)[8]? = some (.int .u64 (Sb 8 : Nat)) := rfl
  have gs3 := cs_set Sb 8 v (by unfold isU; decide)
  obtain ⟨Sc, hSc⟩ : ∃ Sc, setN Sb 8 v = Sc := ⟨_, rfl⟩
  rw [hSc] at gs3 hTT y1 y0 y2
  rw [y0] at PE
  have PV1 := PV
  rw [y2, hTT] at PV ⊢
  generalize vecN (TT 1) c = vn at PV ⊢
  obtain ⟨W1, hW⟩ : ∃ W1, W1 = (w.alloc (Obj.cells (cs Sc) 26)).alloc (Obj.cells (cs Z38) 26) := ⟨_, rfl⟩
  have HR : Hid (Row W1 w.heap.size 26 (cs Sc) ∧ Row W1 (w.heap.size + 1) 26 (cs Z38)) := by show _ ∧ _; rw [hW]; exact two_rows w Sc Z38
  have HB : Hid (Below w.heap.size w W1) := by show Below _ _ _; rw [hW]; exact (by repeat (first | (with_reducible first | exact Below.refl _ _ | assumption | exact Nat.le_refl _ | refine Below.drew ?_ | refine Below.alloc ?_ ?_ _ | refine Below.setCell ?_ ?_ _ | refine le_alloc ?_ | refine le_set ?_ | refine le_drew ?_ | refine below_step (by assumption) ?_ ?_ | refine le_below (by assumption) ?_) | (dsimp only; omega)))
  have HW := Lib.hid hW
  have HTT := Lib.hid hTT
  clear hW hTT hSa hSb hSc y1 y0 y2 PV1 hS hp hc hv ht hd
  go_enter Tryd.func9, Tryd.ntmps9
  go_wp2_with fail
  refine (PT.out _).mono ?_; rintro e w1 ⟨rfl, h⟩; replace h := h.symm; subst h
  go_wp2_with fail
  refine PD.out.mono ?_; rintro e w1 ⟨rfl, h⟩; replace h := h.symm; subst h
  go_wp2_with fail
  rw [show (w.alloc (Obj.cells (cs Sc) 26)).alloc (Obj.cells (cs Z38) 26) = W1 from HW.out.symm]
  have K0 := cell_regrown ((HR.out.1.cell 0).trans (show (cs Sc)[0]? = some (.int .u64 (Sc 0 : Nat)) from rfl))
  have q1 := fun dd os => q_V (w := W1) (dd := dd) (os := os) (PF.out _)
  have q2 := fun dd os => q_u (w := W1) (dd := dd) (os := os) (PE.out _)
  refine wp_region_below_head 6 1 #[true, true, true, true, true, true, false] (by kernel_rfl) (by kernel_rfl) rfl ?_
  simp only [List.take_succ_cons, List.take_zero]
  repeat (first
    | go_big_quiet_skip
    | (go_big_quiet_want; go_big_quiet_op; first | go_big_quiet_on | go_big_quiet_call ((first | (go_at_call 17; exact q1 _ _) | (go_at_call 18; exact q2 _ _)))))
  refine wpQuiet_nil ?_
  intro _ hw'
  obtain ⟨⟨dq, osq⟩, hw''⟩ := hw'
  subst hw''
  have hb := below_regrown W1 dq osq
  have hz : w.heap.size + 1 < W1.heap.size := by rw [HW.out, sz_alloc, sz_alloc]; omega
  have HR5 : Hid (Gs w [(w.heap.size + 1, Z38), (w.heap.size, Sc)] (grow (redrawn W1 dq) osq)) := ⟨below_step hb HB.out HB.out.size, fun p hp => by
    have hs := hb.size
    rcases List.mem_cons.1 hp with rfl | hp
    · exact ⟨Nat.le_succ _, Nat.lt_of_lt_of_le hz hs, HR.out.2.below hb hz⟩
    · obtain rfl := List.mem_singleton.1 hp
      exact ⟨Nat.le_refl _, Nat.lt_of_lt_of_le (Nat.lt_trans (Nat.lt_succ_self _) hz) hs, HR.out.1.below hb (Nat.lt_trans (Nat.lt_succ_self _) hz)⟩⟩
  generalize grow (redrawn W1 dq) osq = w5 at HR5 ⊢
  clear hb hz q1 q2 K0 HB HR HW PE PF
  have k0 : w5.cell? ⟨w.heap.size, 0, none⟩ = some (.int .u64 (Sc 0 : Nat)) := (HR5.out.row w.heap.size Sc (by simp)).cell 0
  have z0 : w5.frozen? ⟨w.heap.size, 0, none⟩ = false := (HR5.out.row w.heap.size Sc (by simp)).fz 0
  refine wpAny_ready (rs := [6]) (by decide +kernel) (by simp) ?_
  refine AllReady.cons rfl (fun K hK => ?_) AllReady.nil
  go_simp
  refine hK _ _ ?_
  clear hK K
  have HG : Hid (Gs w [(w.heap.size + 1, Z38), (w.heap.size, TT)] (w5.setCell ⟨w.heap.size, 0, none⟩ (.int .u64 (x : Nat)))) := by
    have := gs_cell (gs_perm (L' := [(w.heap.size, Sc), (w.heap.size + 1, Z38)]) HR5.out (by simp)) (by simp) 0 x (by unfold isU; decide)
    rw [HTT.out] at this
    exact gs_perm this (by simp)
  generalize w5.setCell ⟨w.heap.size, 0, none⟩ (.int .u64 (x : Nat)) = w6 at HG ⊢
  clear k0 z0 HR5 HTT f1 ga gb gc gs1 gs2 gs3
  refine wpAny_done (by decide +kernel) ?_ _
  go_wp2_with fail
  have HP := Lib.hid HG.out.drew
  refine wp_region_held_drew (S := Gs w [(w.heap.size, TT)]) (by kernel_rfl) HG.out.tail.drew (fun hHeld => ?_)
  refine wpAnyH_take (i := 0) (v := .agg (cs TT)) rfl (by kernel_rfl) (by kernel_rfl) (by kernel_rfl) (fun _ _ _ h => h) (Or.inl ⟨by rfl, fun w' hw' => run_load_row 26 _ rfl w.heap.size rfl 26 (cs TT) (0, 0) _ (hw'.row w.heap.size TT (by simp)) Tryd.underlying26 rfl (infoS _)⟩) hHeld ?_
  simp only [Act.put, List.setIfInBounds_toArray, List.set_cons_zero, List.set_cons_succ]
  refine wpAnyH_take (i := 1) (v := .pointer (some ⟨w.heap.size, 1, none⟩)) rfl (by kernel_rfl) (by kernel_rfl) (by kernel_rfl) (fun _ _ _ h => h) (Or.inl ⟨by rfl, fun w' hw' => by go_simp⟩) hHeld ?_
  simp only [Act.put, List.setIfInBounds_toArray, List.set_cons_zero, List.set_cons_succ]
  refine wpAnyH_take (i := 2) (v := .int .u64 (TT 1 : Nat)) rfl (by kernel_rfl) (by kernel_rfl) (by kernel_rfl) (fun _ _ _ h => h) (Or.inl ⟨by rfl, fun w' hw' => by have k9 := hw'.u w.heap.size TT (by simp) 1 (by unfold isU; decide); go_simp⟩) hHeld ?_
  simp only [Act.put, List.setIfInBounds_toArray, List.set_cons_zero, List.set_cons_succ]
  refine wpAnyH_take (i := 3) (v := .int .u64 (c : Nat)) rfl (by kernel_rfl) (by kernel_rfl) (by kernel_rfl) (fun _ _ _ h => h) (Or.inl ⟨by rfl, fun w' hw' => by go_simp⟩) hHeld ?_
  simp only [Act.put, List.setIfInBounds_toArray, List.set_cons_zero, List.set_cons_succ]
  clear hHeld
  generalize w6.drew = wy at HP ⊢
  clear HG
  refine wpAnyH_ready (rs := [4]) (by kernel_rfl) (by simp) ?_
  refine AllReadyH.cons rfl (fun K hK => ?_) (AllReadyH.nil)
  go_simp
  go_wp2_with (go_at_call 19; refine (PV.out _).mono ?_; rintro e wb ⟨rfl, h⟩; replace h := h.symm; subst h)
  refine on_to hK (fun w' => Gs w [(w.heap.size + 1, Z38), (w.heap.size, TT)] w') _ _ HP.out (fun w' h => h.tail) ?_
  intro wz1 hp
  clear hK
  replace hp := Lib.hid hp
  refine wpAnyH_ready (rs := [5]) (by kernel_rfl) (by simp) ?_
  refine AllReadyH.cons rfl (fun K hK => ?_) (AllReadyH.nil)
  rw [if_pos (by rfl)]
  refine wp_store_row 26 _ _ rfl (w.heap.size + 1) (cs TT) rfl rfl 26 (cs Z38) (hp.out.row (w.heap.size + 1) Z38 (by simp)) (infoS _) rfl (oneS _) ?_
  refine on_to hK (fun w' => Gs w [(w.heap.size + 1, TT), (w.heap.size, TT)] w') _ _ (gs_row hp.out (by simp)) (fun w' h => h.tail) ?_
  intro wz2 hp
  clear hK
  replace hp := Lib.hid hp
  refine wpAnyH_ready (rs := [6]) (by kernel_rfl) (by simp) ?_
  refine AllReadyH.cons rfl (fun K hK => ?_) (AllReadyH.nil)
  go_simp
  refine on_to hK (fun w' => Gs w [(w.heap.size + 1, TT), (w.heap.size, TT)] w') _ _ hp.out (fun w' h => h.tail) ?_
  intro wz3 hp
  clear hK
  replace hp := Lib.hid hp
  refine wpAnyH_ready (rs := [7]) (by kernel_rfl) (by simp) ?_
  refine AllReadyH.cons rfl (fun K hK => ?_) (AllReadyH.nil)
  go_simp
  refine on_to hK (fun w' => Gs w [(w.heap.size + 1, TT), (w.heap.size, TT)] w') _ _ hp.out (fun w' h => h.tail) ?_
  intro wz4 hp
  clear hK
  replace hp := Lib.hid hp
  refine wpAnyH_done (by decide +kernel) ?_ _
  go_wp2_with fail
  refine bodyPost_ret (results_row3 rfl _ _ (w.heap.size + 1) 26 (cs TT) (0, 0) _ rfl (hp.out.row (w.heap.size + 1) TT (by simp)) Tryd.underlying26 rfl (infoS _)) rfl ?_
  exact ⟨rfl, hp.out.1⟩

set_option maxRecDepth 100000 in
set_option maxHeartbeats 1000000 in
theorem enterM_3 (S : Nat → Nat) (m : Int) (pc c v : Nat) (hS : Hid (OkS S)) (hp : Hid (pc < 18446744073709551616)) (hc : Hid (c < 18446744073709551616)) (hv : Hid (v < 18446744073709551616)) (ht : tkI m = 3) (w : World) :
    Calls Tryd.prog 9 #[.agg (cs S), .int .i64 m, .int .u64 pc, .int .u64 c, .int .u64 v] w (RetE (toM S 3 pc c v) 3 (vecN (S 1) c) w) := by
  have PT : Hid (∀ u, Calls Tryd.prog 15 #[.int .i64 m] u (RetIX 3 u)) := fun u => by have := taken_c m u; rw [ht] at this; exact this
  have PF := Lib.hid (fun u => fieldsOf_3 u)
  have PE : Hid (∀ u, Calls Tryd.prog 18 #[.agg #[.int .u64 8, .int .u64 128, .int .u64 6144, .int .i64 11], .int .u64 (S 0 : Nat), .int .i64 3] u (RetU (eM (S 0) 3) u)) := fun u => entM_3 (S 0) (hS.out.u 0 (by decide)) u
  have PV : Hid (∀ u, Calls Tryd.prog 19 #[.int .u64 (S 1 : Nat), .int .u64 c] u (RetUX (vecN (S 1) c) u)) := fun u => vec_c (S 1) c (hS.out.u 1 (by decide)) hc u
  have f1 := u_andNot pc 1 hp.out (by decide)
  replace f1 : bits .andNot .u64 (pc : Int) 1 = ((pc &&& 18446744073709551614 : Nat) : Int) := f1
  obtain ⟨TT, hTT⟩ : ∃ TT, toM S 3 pc c v = TT := ⟨_, rfl⟩
  rw [hTT]
  unfold toM at hTT
  generalize pc &&& 18446744073709551614 = p at f1 hTT
  generalize eM (S 0) 3 = x at PE hTT
  have y1 : S 1 = setN (setN (setN S 6 p) 7 c) 8 v 1 := rfl
  have y0 : S 0 = setN (setN (setN S 6 p) 7 c) 8 v 0 := rfl
  have y2 : S 1 = setN (setN (setN (setN S 6 p) 7 c) 8 v) 0 x 1 := rfl
  have ga : (cs S)[6]? = some (.int .u64 (S 6 : Nat)) := rfl
  have gs1 := cs_set S 6 p (by unfold isU; decide)
  obtain ⟨Sa, hSa⟩ : ∃ Sa, setN S 6 p = Sa := ⟨_, rfl⟩
  rw [hSa] at gs1 hTT y1 y0 y2
  have gb : (cs Sa)[7]? = some (.int .u64 (Sa 7 : Nat)) := rfl
  have gs2 := cs_set Sa 7 c (by unfold isU; decide)
  obtain ⟨Sb, hSb⟩ : ∃ Sb, setN Sa 7 c = Sb := ⟨_, rfl⟩
  rw [hSb] at gs2 hTT y1 y0 y2
  have gc : (cs Sb)[8]? = some (.int .u64 (Sb 8 : Nat)) := rfl
  have gs3 := cs_set Sb 8 v (by unfold isU; decide)
  obtain ⟨Sc, hSc⟩ : ∃ Sc, setN Sb 8 v = Sc := ⟨_, rfl⟩
  rw [hSc] at gs3 hTT y1 y0 y2
  rw [y0] at PE
  have PV1 := PV
  rw [y2, hTT] at PV ⊢
  generalize vecN (TT 1) c = vn at PV ⊢
  obtain ⟨W1, hW⟩ : ∃ W1, W1 = (w.alloc (Obj.cells (cs Sc) 26)).alloc (Obj.cells (cs Z38) 26) := ⟨_, rfl⟩
  have HR : Hid (Row W1 w.heap.size 26 (cs Sc) ∧ Row W1 (w.heap.size + 1) 26 (cs Z38)) := by show _ ∧ _; rw [hW]; exact two_rows w Sc Z38
  have HB : Hid (Below w.heap.size w W1) := by show Below _ _ _; rw [hW]; exact (by repeat (first | (with_reducible first | exact Below.refl _ _ | assumption | exact Nat.le_refl _ | refine Below.drew ?_ | refine Below.alloc ?_ ?_ _ | refine Below.setCell ?_ ?_ _ | refine le_alloc ?_ | refine le_set ?_ | refine le_drew ?_ | refine below_step (by assumption) ?_ ?_ | refine le_below (by assumption) ?_) | (dsimp only; omega)))
  have HW := Lib.hid hW
  have HTT := Lib.hid hTT
  clear hW hTT hSa hSb hSc y1 y0 y2 PV1 hS hp hc hv ht
  go_enter Tryd.func9, Tryd.ntmps9
  go_wp2_with fail
  refine (PT.out _).mono ?_; rintro e w1 ⟨rfl, h⟩; replace h := h.symm; subst h
  go_wp2_with fail
  rw [show (w.alloc (Obj.cells (cs Sc) 26)).alloc (Obj.cells #[.int .u64 0, .int .u64 0, .int .u64 0, .int .u64 0, .int .u64 0, .int .u64 0, .int .u64 0, .int .u64 0, .int .u64 0, .int .u64 0, .int .u64 0, .int .u64 0, .int .u64 0, .int .u64 0, .int .u64 0, .int .u64 0, .int .u64 0, .int .u64 0, .int .u64 0, .int .u64 0, .int .u64 0, .int .u64 0, .int .u8 0, .int .u8 0, .int .u8 0, .int .u8 0, .int .u8 0, .int .u8 0, .int .u8 0, .int .u8 0, .int .u64 0, .int .u64 0, .int .u64 0, .int .u64 0, .int .u64 0, .int .u64 0, .int .u64 0, .int .u64 0] 26) = W1 from HW.out.symm]
  have K0 := cell_regrown ((HR.out.1.cell 0).trans (show (cs Sc)[0]? = some (.int .u64 (Sc 0 : Nat)) from rfl))
  have q1 := fun dd os => q_V (w := W1) (dd := dd) (os := os) (PF.out _)
  have q2 := fun dd os => q_u (w := W1) (dd := dd) (os := os) (PE.out _)
  refine wp_region_below_head 6 1 #[true, true, true, true, true, true, false] (by kernel_rfl) (by kernel_rfl) rfl ?_
  simp only [List.take_succ_cons, List.take_zero]
  repeat (first
    | go_big_quiet_skip
    | (go_big_quiet_want; go_big_quiet_op; first | go_big_quiet_on | go_big_quiet_call ((first | (go_at_call 17; exact q1 _ _) | (go_at_call 18; exact q2 _ _)))))
  refine wpQuiet_nil ?_
  intro _ hw'
  obtain ⟨⟨dq, osq⟩, hw''⟩ := hw'
  subst hw''
  have hb := below_regrown W1 dq osq
  have hz : w.heap.size + 1 < W1.heap.size := by rw [HW.out, sz_alloc, sz_alloc]; omega
  have HR5 : Hid (Gs w [(w.heap.size + 1, Z38), (w.heap.size, Sc)] (grow (redrawn W1 dq) osq)) := ⟨below_step hb HB.out HB.out.size, fun p hp => by
    have hs := hb.size
    rcases List.mem_cons.1 hp with rfl | hp
    · exact ⟨Nat.le_succ _, Nat.lt_of_lt_of_le hz hs, HR.out.2.below hb hz⟩
    · obtain rfl := List.mem_singleton.1 hp
      exact ⟨Nat.le_refl _, Nat.lt_of_lt_of_le (Nat.lt_trans (Nat.lt_succ_self _) hz) hs, HR.out.1.below hb (Nat.lt_trans (Nat.lt_succ_self _) hz)⟩⟩
  generalize grow (redrawn W1 dq) osq = w5 at HR5 ⊢
  clear hb hz q1 q2 K0 HB HR HW PE PF
  have k0 : w5.cell? ⟨w.heap.size, 0, none⟩ = some (.int .u64 (Sc 0 : Nat)) := (HR5.out.row w.heap.size Sc (by simp)).cell 0
  have z0 : w5.frozen? ⟨w.heap.size, 0, none⟩ = false := (HR5.out.row w.heap.size Sc (by simp)).fz 0
  refine wpAny_ready (rs := [6]) (by decide +kernel) (by simp) ?_
  refine AllReady.cons rfl (fun K hK => ?_) AllReady.nil
  go_simp
  refine hK _ _ ?_
  clear hK K
  have HG : Hid (Gs w [(w.heap.size + 1, Z38), (w.heap.size, TT)] (w5.setCell ⟨w.heap.size, 0, none⟩ (.int .u64 (x : Nat)))) := by
    have := gs_cell (gs_perm (L' := [(w.heap.size, Sc), (w.heap.size + 1, Z38)]) HR5.out (by simp)) (by simp) 0 x (by unfold isU; decide)
    rw [HTT.out] at this
    exact gs_perm this (by simp)
  generalize w5.setCell ⟨w.heap.size, 0, none⟩ (.int .u64 (x : Nat)) = w6 at HG ⊢
  clear k0 z0 HR5 HTT f1 ga gb gc gs1 gs2 gs3
  refine wpAny_done (by decide +kernel) ?_ _
  go_wp2_with fail
  have HP := Lib.hid HG.out.drew
  refine wp_region_held_drew (S := Gs w [(w.heap.size, TT)]) (by kernel_rfl) HG.out.tail.drew (fun hHeld => ?_)
  refine wpAnyH_take (i := 0) (v := .agg (cs TT)) rfl (by kernel_rfl) (by kernel_rfl) (by kernel_rfl) (fun _ _ _ h => h) (Or.inl ⟨by rfl, fun w' hw' => run_load_row 26 _ rfl w.heap.size rfl 26 (cs TT) (0, 0) _ (hw'.row w.heap.size TT (by simp)) Tryd.underlying26 rfl (infoS _)⟩) hHeld ?_
  simp only [Act.put, List.setIfInBounds_toArray, List.set_cons_zero, List.set_cons_succ]
  refine wpAnyH_take (i := 1) (v := .pointer (some ⟨w.heap.size, 1, none⟩)) rfl (by kernel_rfl) (by kernel_rfl) (by kernel_rfl) (fun _ _ _ h => h) (Or.inl ⟨by rfl, fun w' hw' => by go_simp⟩) hHeld ?_
  simp only [Act.put, List.setIfInBounds_toArray, List.set_cons_zero, List.set_cons_succ]
  refine wpAnyH_take (i := 2) (v := .int .u64 (TT 1 : Nat)) rfl (by kernel_rfl) (by kernel_rfl) (by kernel_rfl) (fun _ _ _ h => h) (Or.inl ⟨by rfl, fun w' hw' => by have k9 := hw'.u w.heap.size TT (by simp) 1 (by unfold isU; decide); go_simp⟩) hHeld ?_
  simp only [Act.put, List.setIfInBounds_toArray, List.set_cons_zero, List.set_cons_succ]
  refine wpAnyH_take (i := 3) (v := .int .u64 (c : Nat)) rfl (by kernel_rfl) (by kernel_rfl) (by kernel_rfl) (fun _ _ _ h => h) (Or.inl ⟨by rfl, fun w' hw' => by go_simp⟩) hHeld ?_
  simp only [Act.put, List.setIfInBounds_toArray, List.set_cons_zero, List.set_cons_succ]
  clear hHeld
  generalize w6.drew = wy at HP ⊢
  clear HG
  refine wpAnyH_ready (rs := [4]) (by kernel_rfl) (by simp) ?_
  refine AllReadyH.cons rfl (fun K hK => ?_) (AllReadyH.nil)
  go_simp
  go_wp2_with (go_at_call 19; refine (PV.out _).mono ?_; rintro e wb ⟨rfl, h⟩; replace h := h.symm; subst h)
  refine on_to hK (fun w' => Gs w [(w.heap.size + 1, Z38), (w.heap.size, TT)] w') _ _ HP.out (fun w' h => h.tail) ?_
  intro wz1 hp
  clear hK
  replace hp := Lib.hid hp
  refine wpAnyH_ready (rs := [5]) (by kernel_rfl) (by simp) ?_
  refine AllReadyH.cons rfl (fun K hK => ?_) (AllReadyH.nil)
  rw [if_pos (by rfl)]
  refine wp_store_row 26 _ _ rfl (w.heap.size + 1) (cs TT) rfl rfl 26 (cs Z38) (hp.out.row (w.heap.size + 1) Z38 (by simp)) (infoS _) rfl (oneS _) ?_
  refine on_to hK (fun w' => Gs w [(w.heap.size + 1, TT), (w.heap.size, TT)] w') _ _ (gs_row hp.out (by simp)) (fun w' h => h.tail) ?_
  intro wz2 hp
  clear hK
  replace hp := Lib.hid hp
  refine wpAnyH_ready (rs := [6]) (by kernel_rfl) (by simp) ?_
  refine AllReadyH.cons rfl (fun K hK => ?_) (AllReadyH.nil)
  go_simp
  refine on_to hK (fun w' => Gs w [(w.heap.size + 1, TT), (w.heap.size, TT)] w') _ _ hp.out (fun w' h => h.tail) ?_
  intro wz3 hp
  clear hK
  replace hp := Lib.hid hp
  refine wpAnyH_ready (rs := [7]) (by kernel_rfl) (by simp) ?_
  refine AllReadyH.cons rfl (fun K hK => ?_) (AllReadyH.nil)
  go_simp
  refine on_to hK (fun w' => Gs w [(w.heap.size + 1, TT), (w.heap.size, TT)] w') _ _ hp.out (fun w' h => h.tail) ?_
  intro wz4 hp
  clear hK
  replace hp := Lib.hid hp
  refine wpAnyH_done (by decide +kernel) ?_ _
  go_wp2_with fail
  refine bodyPost_ret (results_row3 rfl _ _ (w.heap.size + 1) 26 (cs TT) (0, 0) _ rfl (hp.out.row (w.heap.size + 1) TT (by simp)) Tryd.underlying26 rfl (infoS _)) rfl ?_
  exact ⟨rfl, hp.out.1⟩

end Go.Proofs.YteeifdmnagbjeaaDoor
