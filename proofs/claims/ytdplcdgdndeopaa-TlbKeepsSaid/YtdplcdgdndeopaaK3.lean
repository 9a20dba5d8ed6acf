/- The code's namesFor. -/
import Derived.Test.YtdplcdgdndeopaaL0
namespace Go.Proofs.Ytdplcdgdndeopaa
open Go.ChangeShapes Go.WideShapes Go.ChangeAt Go.RowKit Go.Sort
set_option linter.unusedVariables false
set_option linter.unusedSimpArgs false
def nm0 (r0 r1 r2 s : Nat) : Array Value := #[.int .u64 0, .int .i64 0, .bool false, .int .u64 0, .int .u64 0, .int .i64 0, .bool false, .int .u64 0, .int .u64 0, .int .i64 0, .bool false, .int .u64 0, .int .u64 0, .int .i64 0, .bool false, .int .u64 0, .int .u64 0, .int .i64 0, .bool false, .int .u64 0, .int .u64 0, .int .i64 0, .bool false, .int .u64 0]
def nm1 (r0 r1 r2 s : Nat) : Array Value := #[.int .u64 (r0 : Nat), .int .i64 0, .bool false, .int .u64 (s : Nat), .int .u64 0, .int .i64 0, .bool false, .int .u64 0, .int .u64 0, .int .i64 0, .bool false, .int .u64 0, .int .u64 0, .int .i64 0, .bool false, .int .u64 0, .int .u64 0, .int .i64 0, .bool false, .int .u64 0, .int .u64 0, .int .i64 0, .bool false, .int .u64 0]
def nm2 (r0 r1 r2 s : Nat) : Array Value := #[.int .u64 (r0 : Nat), .int .i64 0, .bool false, .int .u64 (s : Nat), .int .u64 (r0 : Nat), .int .i64 0, .bool true, .int .u64 0, .int .u64 0, .int .i64 0, .bool false, .int .u64 0, .int .u64 0, .int .i64 0, .bool false, .int .u64 0, .int .u64 0, .int .i64 0, .bool false, .int .u64 0, .int .u64 0, .int .i64 0, .bool false, .int .u64 0]
def nm3 (r0 r1 r2 s : Nat) : Array Value := #[.int .u64 (r0 : Nat), .int .i64 0, .bool false, .int .u64 (s : Nat), .int .u64 (r0 : Nat), .int .i64 0, .bool true, .int .u64 0, .int .u64 (r1 : Nat), .int .i64 1, .bool false, .int .u64 (s : Nat), .int .u64 0, .int .i64 0, .bool false, .int .u64 0, .int .u64 0, .int .i64 0, .bool false, .int .u64 0, .int .u64 0, .int .i64 0, .bool false, .int .u64 0]
def nm4 (r0 r1 r2 s : Nat) : Array Value := #[.int .u64 (r0 : Nat), .int .i64 0, .bool false, .int .u64 (s : Nat), .int .u64 (r0 : Nat), .int .i64 0, .bool true, .int .u64 0, .int .u64 (r1 : Nat), .int .i64 1, .bool false, .int .u64 (s : Nat), .int .u64 (r1 : Nat), .int .i64 1, .bool true, .int .u64 0, .int .u64 0, .int .i64 0, .bool false, .int .u64 0, .int .u64 0, .int .i64 0, .bool false, .int .u64 0]
def nm5 (r0 r1 r2 s : Nat) : Array Value := #[.int .u64 (r0 : Nat), .int .i64 0, .bool false, .int .u64 (s : Nat), .int .u64 (r0 : Nat), .int .i64 0, .bool true, .int .u64 0, .int .u64 (r1 : Nat), .int .i64 1, .bool false, .int .u64 (s : Nat), .int .u64 (r1 : Nat), .int .i64 1, .bool true, .int .u64 0, .int .u64 (r2 : Nat), .int .i64 2, .bool false, .int .u64 (s : Nat), .int .u64 0, .int .i64 0, .bool false, .int .u64 0]
def nm6 (r0 r1 r2 s : Nat) : Array Value := #[.int .u64 (r0 : Nat), .int .i64 0, .bool false, .int .u64 (s : Nat), .int .u64 (r0 : Nat), .int .i64 0, .bool true, .int .u64 0, .int .u64 (r1 : Nat), .int .i64 1, .bool false, .int .u64 (s : Nat), .int .u64 (r1 : Nat), .int .i64 1, .bool true, .int .u64 0, .int .u64 (r2 : Nat), .int .i64 2, .bool false, .int .u64 (s : Nat), .int .u64 (r2 : Nat), .int .i64 2, .bool true, .int .u64 0]
theorem nm_info (r0 r1 r2 s : Nat) : (Try.prog.info? 69).map (·.size) = some (nm6 r0 r1 r2 s).size := by show _ = some 24; kernel_rfl
theorem nm_one (r0 r1 r2 s : Nat) : (nm6 r0 r1 r2 s).all (·.oneCell') = true := by simp [nm6, Value.oneCell']
def kyC (a : Nat) (l : Int) (g : Bool) (s : Nat) : Array Value := #[.int .u64 (a : Nat), .int .i64 l, .bool g, .int .u64 (s : Nat)]
theorem ky_info (a : Nat) (l : Int) (g : Bool) (s : Nat) : (Try.prog.info? 68).map (·.size) = some (kyC a l g s).size := by show _ = some 4; kernel_rfl
theorem ky_one (a : Nat) (l : Int) (g : Bool) (s : Nat) : (kyC a l g s).all (·.oneCell') = true := by simp [kyC, Value.oneCell']
structure NmR (C : Array Value) (w u : World) : Prop where
  out : Below w.heap.size w u
  r4 : Row u w.heap.size 69 (nm0 0 0 0 0)
  r5 : Row u (w.heap.size + 1) 69 C
  sz : w.heap.size + 2 ≤ u.heap.size
structure NmE (x : En) (eb : Nat) (C : Array Value) (w u : World) : Prop where
  n : NmR C w u
  re : Row u eb 33 x.v
  l1 : w.heap.size + 2 ≤ eb
  l2 : eb < u.heap.size
theorem NmR.below {C : Array Value} {w u u' : World} (h : NmR C w u) (hb : Below u.heap.size u u') : NmR C w u' :=
  ⟨below_step hb h.out h.out.size, h.r4.below hb (by have := h.sz; omega), h.r5.below hb (by have := h.sz; omega), Nat.le_trans h.sz hb.size⟩
theorem NmE.below {x : En} {eb : Nat} {C : Array Value} {w u u' : World} (h : NmE x eb C w u) (hb : Below u.heap.size u u') : NmE x eb C w u' :=
  ⟨h.n.below hb, h.re.below hb h.l2, h.l1, Nat.lt_of_lt_of_le h.l2 hb.size⟩
theorem NmR.enter {C : Array Value} {w u : World} (h : NmR C w u) (x : En) (z : Array Value) : NmE x u.heap.size C w ((u.alloc (Obj.cells z 33)).setRow u.heap.size x.v) :=
  ⟨h.below (below_setRow ((Below.refl _ _).alloc (Nat.le_refl _) _) (Nat.le_refl _) _), (row_new _ _ _).setRow _, h.sz, by rw [sz_setRow, sz_alloc]; exact Nat.lt_succ_self _⟩
theorem NmE.store {x : En} {eb : Nat} {C : Array Value} {w u : World} (h : NmE x eb C w u) (C' : Array Value) : NmE x eb C' w (u.setRow (w.heap.size + 1) C') :=
  ⟨⟨below_setRow h.n.out (by omega) _, h.n.r4.setRow_ne (by omega) _, h.n.r5.setRow _, by rw [sz_setRow]; exact h.n.sz⟩, h.re.setRow_ne (by have := h.l1; omega) _, h.l1, by rw [sz_setRow]; exact h.l2⟩
theorem NmE.glob {ad sp lf eb : Nat} {lv : Int} {gl : Bool} {C : Array Value} {w u : World} (h : NmE ⟨ad, lv, sp, gl, lf⟩ eb C w u) : NmE ⟨ad, lv, sp, true, lf⟩ eb C w (u.setCell ⟨eb, 3, none⟩ (.bool true)) :=
  ⟨⟨Below.setCell h.n.out (by have := h.l1; show _ ≤ eb; omega) _, h.n.r4.set_ne (by have := h.l1; omega) _ _, h.n.r5.set_ne (by have := h.l1; omega) _ _, by rw [sz_set]; exact h.n.sz⟩, (h.re.set 3 _), h.l1, by rw [sz_set]; exact h.l2⟩
theorem nm_start (w : World) : NmR (nm0 0 0 0 0) w ((w.alloc (Obj.cells (nm0 0 0 0 0) 69)).alloc (Obj.cells (nm0 0 0 0 0) 69)) := by
  have h2 := row_new (w.alloc (Obj.cells (nm0 0 0 0 0) 69)) (nm0 0 0 0 0) 69
  rw [sz_alloc] at h2
  exact ⟨(by repeat (first | (with_reducible first | exact Below.refl _ _ | assumption | exact Nat.le_refl _ | refine Below.drew ?_ | refine Below.alloc ?_ ?_ _ | refine Below.setCell ?_ ?_ _ | refine le_alloc ?_ | refine le_set ?_ | refine le_drew ?_ | refine below_step (by assumption) ?_ ?_ | refine le_below (by assumption) ?_) | (dsimp only; omega))), row_old (row_new _ _ _) _, h2, by rw [sz_alloc, sz_alloc]; exact Nat.le_refl _⟩
theorem name_f (ad sp lf : Nat) (lv : Int) (w : World) : Calls Try.prog 34 #[.agg #[.int .u64 (ad : Nat), .int .i64 lv, .int .u64 (sp : Nat), .bool false, .int .u64 (lf : Nat)]] w (fun e w' => e = .returned (.agg #[.int .u64 (ad : Nat), .int .i64 lv, .bool false, .int .u64 (sp : Nat)]) ∧ Below w.heap.size w w') := nameOf_false ad sp lf lv w
theorem name_t (ad sp lf : Nat) (lv : Int) (w : World) : Calls Try.prog 34 #[.agg #[.int .u64 (ad : Nat), .int .i64 lv, .int .u64 (sp : Nat), .bool true, .int .u64 (lf : Nat)]] w (fun e w' => e = .returned (.agg #[.int .u64 (ad : Nat), .int .i64 lv, .bool true, .int .u64 0]) ∧ Below w.heap.size w w') := nameOf_true ad sp lf lv w
set_option maxRecDepth 100000 in
set_option maxHeartbeats 4000000 in
theorem namesFor_r (s a r0 r1 r2 : Nat) (w : World) (q0 : ∀ u, Calls Try.prog 35 #[.int .u64 (a : Nat), .int .i64 0] u (RetUX r0 u)) (q1 : ∀ u, Calls Try.prog 35 #[.int .u64 (a : Nat), .int .i64 1] u (RetUX r1 u)) (q2 : ∀ u, Calls Try.prog 35 #[.int .u64 (a : Nat), .int .i64 2] u (RetUX r2 u)) :
    Calls Try.prog 29 #[.int .u64 (s : Nat), .int .u64 (a : Nat)] w (fun e w' => e = .returned (.agg (nm6 r0 r1 r2 s)) ∧ Below w.heap.size w w') := by
  replace q0 := Lib.hid q0
  replace q1 := Lib.hid q1
  replace q2 := Lib.hid q2
  have z0 : Hid (NmR (nm0 r0 r1 r2 s) w ((w.alloc (Obj.cells #[.int .u64 0, .int .i64 0, .bool false, .int .u64 0, .int .u64 0, .int .i64 0, .bool false, .int .u64 0, .int .u64 0, .int .i64 0, .bool false, .int .u64 0, .int .u64 0, .int .i64 0, .bool false, .int .u64 0, .int .u64 0, .int .i64 0, .bool false, .int .u64 0, .int .u64 0, .int .i64 0, .bool false, .int .u64 0] 69)).alloc (Obj.cells #[.int .u64 0, .int .i64 0, .bool false, .int .u64 0, .int .u64 0, .int .i64 0, .bool false, .int .u64 0, .int .u64 0, .int .i64 0, .bool false, .int .u64 0, .int .u64 0, .int .i64 0, .bool false, .int .u64 0, .int .u64 0, .int .i64 0, .bool false, .int .u64 0, .int .u64 0, .int .i64 0, .bool false, .int .u64 0] 69))) := nm_start w
  go_enter Try.func29, Try.ntmps29
  go_upto_block 0 with fail
  generalize (w.alloc (Obj.cells #[.int .u64 0, .int .i64 0, .bool false, .int .u64 0, .int .u64 0, .int .i64 0, .bool false, .int .u64 0, .int .u64 0, .int .i64 0, .bool false, .int .u64 0, .int .u64 0, .int .i64 0, .bool false, .int .u64 0, .int .u64 0, .int .i64 0, .bool false, .int .u64 0, .int .u64 0, .int .i64 0, .bool false, .int .u64 0] 69)).alloc (Obj.cells #[.int .u64 0, .int .i64 0, .bool false, .int .u64 0, .int .u64 0, .int .i64 0, .bool false, .int .u64 0, .int .u64 0, .int .i64 0, .bool false, .int .u64 0, .int .u64 0, .int .i64 0, .bool false, .int .u64 0, .int .u64 0, .int .i64 0, .bool false, .int .u64 0, .int .u64 0, .int .i64 0, .bool false, .int .u64 0] 69) = u0 at z0 ⊢
  have N0 := z0
  clear z0
  go_wp2_with fail
  refine wp_loop_rounds 4 ?_

  rw [rounds_succ]
  have HN := Lib.hid (N0.out.enter ⟨r0, 0, s, false, 0⟩ E0.v)
  go_upto_region 6 with (first
    | (go_at_call 35; refine (q0.out _).mono ?_; rintro e wz ⟨rfl, hz⟩; subst hz)
    | (refine wpList_store_rowP (fun wx => NmE ⟨r0, 0, s, false, 0⟩ u0.heap.size (nm0 r0 r1 r2 s) w wx) rfl 33 _ _ rfl u0.heap.size #[.int .u64 (r0 : Nat), .int .i64 0, .int .u64 (s : Nat), .bool false, .int .u64 0] rfl rfl 33 E0.v (row_new _ _ _) (info_te ⟨r0, 0, s, false, 0⟩) rfl (one_en ⟨r0, 0, s, false, 0⟩) HN.out ?_; rintro v01 hv; have Hv1 := Lib.hid hv; clear hv HN N0))
  obtain ⟨eb0, heb⟩ : ∃ eb, u0.heap.size = eb := ⟨_, rfl⟩
  rw [heb] at Hv1 ⊢
  clear heb
  go_upto_region 7 with (first
    | (refine wpList_load_row rfl 33 _ rfl eb0 rfl 33 #[.int .u64 (r0 : Nat), .int .i64 0, .int .u64 (s : Nat), .bool false, .int .u64 0] (0, 0) _ Hv1.out.re Try.underlying33 rfl (info_te ⟨r0, 0, s, false, 0⟩) ?_)
    | (go_at_call 34; refine (name_f r0 s 0 0 _).mono ?_; rintro e v02 ⟨rfl, hb⟩; have Hv2 := Lib.hid (Hv1.out.below hb); clear hb Hv1)
    | (refine wpList_store_atP (fun wx => NmE ⟨r0, 0, s, false, 0⟩ eb0 (nm1 r0 r1 r2 s) w wx) rfl 68 _ _ rfl (w.heap.size + 1) 0 (kyC r0 0 false s) rfl rfl 69 (nm0 r0 r1 r2 s) (nm1 r0 r1 r2 s) Hv2.out.n.r5 (ky_info _ _ _ _) (show 0 + 4 ≤ 24 by decide) rfl (ky_one _ _ _ _) (Hv2.out.store _) ?_; rintro v03 hv03; have Hv03 := Lib.hid hv03; clear hv03 Hv2))
  have Hv4 := Lib.hid Hv03.out.glob
  have k3 : v03.cell? ⟨eb0, 3, none⟩ = some (.bool false) := (Hv03.out.re.cell 3).trans rfl
  have f3 := Hv03.out.re.fz 3
  clear Hv03
  go_upto_region 8 with fail
  generalize v03.setCell _ _ = v04 at Hv4 ⊢
  clear k3 f3
  go_upto_region 9 with (first
    | (refine wpList_load_row rfl 33 _ rfl eb0 rfl 33 #[.int .u64 (r0 : Nat), .int .i64 0, .int .u64 (s : Nat), .bool true, .int .u64 0] (0, 0) _ Hv4.out.re Try.underlying33 rfl (info_te ⟨r0, 0, s, true, 0⟩) ?_)
    | (go_at_call 34; refine (name_t r0 s 0 0 _).mono ?_; rintro e v05 ⟨rfl, hb⟩; have Hv5 := Lib.hid (Hv4.out.below hb); clear hb Hv4)
    | (refine wpList_store_atP (fun wx => NmE ⟨r0, 0, s, true, 0⟩ eb0 (nm2 r0 r1 r2 s) w wx) rfl 68 _ _ rfl (w.heap.size + 1) 4 (kyC r0 0 true 0) rfl rfl 69 (nm1 r0 r1 r2 s) (nm2 r0 r1 r2 s) Hv5.out.n.r5 (ky_info _ _ _ _) (show 4 + 4 ≤ 24 by decide) rfl (ky_one _ _ _ _) (Hv5.out.store _) ?_; rintro u1 hu1; have Hu1 := Lib.hid hu1; clear hu1 Hv5))
  have N1 := Lib.hid Hu1.out.n
  clear Hu1
  go_wp2_with fail
  rw [rounds_succ]
  have HN := Lib.hid (N1.out.enter ⟨r1, 1, s, false, 0⟩ E0.v)
  go_upto_region 6 with (first
    | (go_at_call 35; refine (q1.out _).mono ?_; rintro e wz ⟨rfl, hz⟩; subst hz)
    | (refine wpList_store_rowP (fun wx => NmE ⟨r1, 1, s, false, 0⟩ u1.heap.size (nm2 r0 r1 r2 s) w wx) rfl 33 _ _ rfl u1.heap.size #[.int .u64 (r1 : Nat), .int .i64 1, .int .u64 (s : Nat), .bool false, .int .u64 0] rfl rfl 33 E0.v (row_new _ _ _) (info_te ⟨r1, 1, s, false, 0⟩) rfl (one_en ⟨r1, 1, s, false, 0⟩) HN.out ?_; rintro v11 hv; have Hv1 := Lib.hid hv; clear hv HN N1))
  obtain ⟨eb1, heb⟩ : ∃ eb, u1.heap.size = eb := ⟨_, rfl⟩
  rw [heb] at Hv1 ⊢
  clear heb
  go_upto_region 7 with (first
    | (refine wpList_load_row rfl 33 _ rfl eb1 rfl 33 #[.int .u64 (r1 : Nat), .int .i64 1, .int .u64 (s : Nat), .bool false, .int .u64 0] (0, 0) _ Hv1.out.re Try.underlying33 rfl (info_te ⟨r1, 1, s, false, 0⟩) ?_)
    | (go_at_call 34; refine (name_f r1 s 0 1 _).mono ?_; rintro e v12 ⟨rfl, hb⟩; have Hv2 := Lib.hid (Hv1.out.below hb); clear hb Hv1)
    | (refine wpList_store_atP (fun wx => NmE ⟨r1, 1, s, false, 0⟩ eb1 (nm3 r0 r1 r2 s) w wx) rfl 68 _ _ rfl (w.heap.size + 1) 8 (kyC r1 1 false s) rfl rfl 69 (nm2 r0 r1 r2 s) (nm3 r0 r1 r2 s) Hv2.out.n.r5 (ky_info _ _ _ _) (show 8 + 4 ≤ 24 by decide) rfl (ky_one _ _ _ _) (Hv2.out.store _) ?_; rintro v13 hv13; have Hv13 := Lib.hid hv13; clear hv13 Hv2))
  have Hv4 := Lib.hid Hv13.out.glob
  have k3 : v13.cell? ⟨eb1, 3, none⟩ = some (.bool false) := (Hv13.out.re.cell 3).trans rfl
  have f3 := Hv13.out.re.fz 3
  clear Hv13
  go_upto_region 8 with fail
  generalize v13.setCell _ _ = v14 at Hv4 ⊢
  clear k3 f3
  go_upto_region 9 with (first
    | (refine wpList_load_row rfl 33 _ rfl eb1 rfl 33 #[.int .u64 (r1 : Nat), .int .i64 1, .int .u64 (s : Nat), .bool true, .int .u64 0] (0, 0) _ Hv4.out.re Try.underlying33 rfl (info_te ⟨r1, 1, s, true, 0⟩) ?_)
    | (go_at_call 34; refine (name_t r1 s 0 1 _).mono ?_; rintro e v15 ⟨rfl, hb⟩; have Hv5 := Lib.hid (Hv4.out.below hb); clear hb Hv4)
    | (refine wpList_store_atP (fun wx => NmE ⟨r1, 1, s, true, 0⟩ eb1 (nm4 r0 r1 r2 s) w wx) rfl 68 _ _ rfl (w.heap.size + 1) 12 (kyC r1 1 true 0) rfl rfl 69 (nm3 r0 r1 r2 s) (nm4 r0 r1 r2 s) Hv5.out.n.r5 (ky_info _ _ _ _) (show 12 + 4 ≤ 24 by decide) rfl (ky_one _ _ _ _) (Hv5.out.store _) ?_; rintro u2 hu2; have Hu2 := Lib.hid hu2; clear hu2 Hv5))
  have N2 := Lib.hid Hu2.out.n
  clear Hu2
  go_wp2_with fail
  rw [rounds_succ]
  have HN := Lib.hid (N2.out.enter ⟨r2, 2, s, false, 0⟩ E0.v)
  go_upto_region 6 with (first
    | (go_at_call 35; refine (q2.out _).mono ?_; rintro e wz ⟨rfl, hz⟩; subst hz)
    | (refine wpList_store_rowP (fun wx => NmE ⟨r2, 2, s, false, 0⟩ u2.heap.size (nm4 r0 r1 r2 s) w wx) rfl 33 _ _ rfl u2.heap.size #[.int .u64 (r2 : Nat), .int .i64 2, .int .u64 (s : Nat), .bool false, .int .u64 0] rfl rfl 33 E0.v (row_new _ _ _) (info_te ⟨r2, 2, s, false, 0⟩) rfl (one_en ⟨r2, 2, s, false, 0⟩) HN.out ?_; rintro v21 hv; have Hv1 := Lib.hid hv; clear hv HN N2))
  obtain ⟨eb2, heb⟩ : ∃ eb, u2.heap.size = eb := ⟨_, rfl⟩
  rw [heb] at Hv1 ⊢
  clear heb
  go_upto_region 7 with (first
    | (refine wpList_load_row rfl 33 _ rfl eb2 rfl 33 #[.int .u64 (r2 : Nat), .int .i64 2, .int .u64 (s : Nat), .bool false, .int .u64 0] (0, 0) _ Hv1.out.re Try.underlying33 rfl (info_te ⟨r2, 2, s, false, 0⟩) ?_)
    | (go_at_call 34; refine (name_f r2 s 0 2 _).mono ?_; rintro e v22 ⟨rfl, hb⟩; have Hv2 := Lib.hid (Hv1.out.below hb); clear hb Hv1)
    | (refine wpList_store_atP (fun wx => NmE ⟨r2, 2, s, false, 0⟩ eb2 (nm5 r0 r1 r2 s) w wx) rfl 68 _ _ rfl (w.heap.size + 1) 16 (kyC r2 2 false s) rfl rfl 69 (nm4 r0 r1 r2 s) (nm5 r0 r1 r2 s) Hv2.out.n.r5 (ky_info _ _ _ _) (show 16 + 4 ≤ 24 by decide) rfl (ky_one _ _ _ _) (Hv2.out.store _) ?_; rintro v23 hv23; have Hv23 := Lib.hid hv23; clear hv23 Hv2))
  have Hv4 := Lib.hid Hv23.out.glob
  have k3 : v23.cell? ⟨eb2, 3, none⟩ = some (.bool false) := (Hv23.out.re.cell 3).trans rfl
  have f3 := Hv23.out.re.fz 3
  clear Hv23
  go_upto_region 8 with fail
  generalize v23.setCell _ _ = v24 at Hv4 ⊢
  clear k3 f3
  go_upto_region 9 with (first
    | (refine wpList_load_row rfl 33 _ rfl eb2 rfl 33 #[.int .u64 (r2 : Nat), .int .i64 2, .int .u64 (s : Nat), .bool true, .int .u64 0] (0, 0) _ Hv4.out.re Try.underlying33 rfl (info_te ⟨r2, 2, s, true, 0⟩) ?_)
    | (go_at_call 34; refine (name_t r2 s 0 2 _).mono ?_; rintro e v25 ⟨rfl, hb⟩; have Hv5 := Lib.hid (Hv4.out.below hb); clear hb Hv4)
    | (refine wpList_store_atP (fun wx => NmE ⟨r2, 2, s, true, 0⟩ eb2 (nm6 r0 r1 r2 s) w wx) rfl 68 _ _ rfl (w.heap.size + 1) 20 (kyC r2 2 true 0) rfl rfl 69 (nm5 r0 r1 r2 s) (nm6 r0 r1 r2 s) Hv5.out.n.r5 (ky_info _ _ _ _) (show 20 + 4 ≤ 24 by decide) rfl (ky_one _ _ _ _) (Hv5.out.store _) ?_; rintro u3 hu3; have Hu3 := Lib.hid hu3; clear hu3 Hv5))
  have N3 := Lib.hid Hu3.out.n
  clear Hu3
  go_wp2_with fail
  rw [rounds_succ]
  have HN := Lib.hid (below_setRow N3.out.out (Nat.le_refl _) (nm6 r0 r1 r2 s))
  have HR := Lib.hid (N3.out.r4.setRow (nm6 r0 r1 r2 s))
  go_wp2_with (first
    | (refine wpList_load_row rfl 69 _ rfl (w.heap.size + 1) rfl 69 (nm6 r0 r1 r2 s) (0, 0) _ N3.out.r5 Try.underlying69 rfl (nm_info _ _ _ _) ?_)
    | (refine wpList_store_row rfl 69 _ _ rfl w.heap.size (nm6 r0 r1 r2 s) rfl rfl 69 (nm0 0 0 0 0) N3.out.r4 (nm_info _ _ _ _) rfl (nm_one _ _ _ _) ?_))
  refine bodyPost_ret (results_cell_row rfl _ _ w.heap.size 69 (nm6 r0 r1 r2 s) (0, 0) _ rfl HR.out Try.underlying69 rfl (nm_info _ _ _ _)) rfl ?_
  exact ⟨rfl, HN.out⟩
theorem namesFor_c (s a : Nat) (ha : a < 18446744073709551616) (w : World) : Calls Try.prog 29 #[.int .u64 (s : Nat), .int .u64 (a : Nat)] w (fun e w' => e = .returned (.agg (nm6 (a / 4096 * 4096) (a / 2097152 * 2097152) (a / 1073741824 * 1073741824) s)) ∧ Below w.heap.size w w') :=
  namesFor_r s a _ _ _ w (fun u => firstOf_0 a ha u) (fun u => firstOf_1 a ha u) (fun u => firstOf_2 a ha u)
end Go.Proofs.Ytdplcdgdndeopaa
