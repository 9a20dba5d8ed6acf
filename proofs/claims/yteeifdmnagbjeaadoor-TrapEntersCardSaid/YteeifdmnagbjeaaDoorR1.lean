/- The document's vector, Enter. -/
import Derived.Test.YteeifdmnagbjeaaDoorM1
import Derived.Deep.RegionHeld
namespace Go.Proofs.YteeifdmnagbjeaaDoor
open Go.ChangeShapes Go.WideShapes Go.ChangeAt Go.RowKit Go.Sort Y
set_option linter.unusedVariables false
set_option linter.unusedSimpArgs false

theorem vecr_c (t c : Nat) (ht : Hid (t < 18446744073709551616)) (hc : Hid (c < 18446744073709551616)) (w : World) : Calls Tryd.prog 23 #[.int .u64 t, .int .u64 c] w (RetUX (vecN t c) w) := by
  have H0 : Hid (∀ u, Calls Tryd.prog 21 #[.int .u64 t, .int .i64 0] u (RetBX (t.testBit 0) u)) := fun u => bit_c t 0 ht (by decide) u
  have H6 : Hid (∀ u, Calls Tryd.prog 21 #[.int .u64 c, .int .i64 63] u (RetBX (c.testBit 63) u)) := fun u => bit_c c 63 hc (by decide) u
  have N1 := u_andNot t 3 ht.out (by decide)
  have N2 := u_andNot c 9223372036854775808 hc.out (by decide)
  have E : Hid (vecN t c = bif c.testBit 63 && t.testBit 0 then ((t &&& 18446744073709551612) + 4 * (c &&& 9223372036854775807) % 18446744073709551616) % 18446744073709551616 else t &&& 18446744073709551612) := rfl
  have S2 := Lib.hid (vec_sum (t &&& 18446744073709551612) (c &&& 9223372036854775807))
  replace N1 : bits .andNot .u64 (t : Int) 3 = ((t &&& 18446744073709551612 : Nat) : Int) := N1
  replace N2 : bits .andNot .u64 (c : Int) 9223372036854775808 = ((c &&& 9223372036854775807 : Nat) : Int) := N2
  generalize c.testBit 63 = A at H6 E
  generalize t.testBit 0 = T at H0 E
  generalize vecN t c = V at E ⊢
  generalize t &&& 18446744073709551612 = x at *
  generalize c &&& 9223372036854775807 = y at *
  have HN1 := Lib.hid N1
  have HN2 := Lib.hid N2
  clear N1 N2 ht hc
  cases T
  · go_enter Tryd.func23, Tryd.ntmps23
    go_wp2_with fail
    refine (H0.out _).mono ?_; rintro e w1 ⟨rfl, h⟩; replace h := h.symm; subst h
    go_wp2_with fail
    go_ret
    exact retUX_mk (HN1.out.trans (congrArg Nat.cast (E.out.trans (by cases A <;> rfl)).symm))
  · cases A
    · go_enter Tryd.func23, Tryd.ntmps23
      go_wp2_with fail
      refine (H0.out _).mono ?_; rintro e w1 ⟨rfl, h⟩; replace h := h.symm; subst h
      go_wp2_with fail
      refine (H6.out _).mono ?_; rintro e w1 ⟨rfl, h⟩; replace h := h.symm; subst h
      go_wp2_with fail
      go_ret
      exact retUX_mk (HN1.out.trans (congrArg Nat.cast E.out.symm))
    · go_enter Tryd.func23, Tryd.ntmps23
      go_wp2_with fail
      refine (H0.out _).mono ?_; rintro e w1 ⟨rfl, h⟩; replace h := h.symm; subst h
      go_wp2_with fail
      refine (H6.out _).mono ?_; rintro e w1 ⟨rfl, h⟩; replace h := h.symm; subst h
      go_wp2_with fail
      go_ret
      exact retUX_mk ((show IntKind.u64.wrap (bits .andNot .u64 (t : Int) 3 + IntKind.u64.wrap (4 * bits .andNot .u64 (c : Int) 9223372036854775808)) = _ by rw [HN1.out, HN2.out]; exact S2.out).trans (congrArg Nat.cast E.out.symm))
theorem and63n (c : Nat) (hc : c < 18446744073709551616) : bits .and .u64 (c : Int) 63 = ((c % 64 : Nat) : Int) := by
  rw [show (63 : Int) = ((63 : Nat) : Int) from rfl, u_and c 63 hc (by decide), show (63 : Nat) = 2 ^ 6 - 1 from rfl, Nat.and_two_pow_sub_one_eq_mod]
set_option maxRecDepth 100000 in
theorem refS_0 (s : Nat) (hs : s < 18446744073709551616) : putN (putN (putN s 256 false) 32 (s.testBit 1)) 2 false = eS s 0 := by
  refine e64 (put_lt _ (put_lt _ (put_lt _ hs (by decide)) (by decide)) (by decide)) (eS_lt s 0 hs (Or.inl rfl)) (fun i hi => ?_)
  rw [eS_bit s 0 i hi, tb_put _ 2 _ _ (by decide) hi, tb_put _ 32 _ _ (by decide) hi, tb_put _ 256 _ _ (by decide) hi]
  obtain ⟨j, rfl⟩ : ∃ j : Fin 64, j.val = i := ⟨⟨i, hi⟩, rfl⟩
  generalize s.testBit j.val = a
  generalize s.testBit 1 = b
  clear hi hs
  revert j a b; decide +kernel
set_option maxRecDepth 100000 in
theorem refS_1 (s : Nat) (hs : s < 18446744073709551616) : putN (putN (putN s 256 true) 32 (s.testBit 1)) 2 false = eS s 1 := by
  refine e64 (put_lt _ (put_lt _ (put_lt _ hs (by decide)) (by decide)) (by decide)) (eS_lt s 1 hs (Or.inr rfl)) (fun i hi => ?_)
  rw [eS_bit s 1 i hi, tb_put _ 2 _ _ (by decide) hi, tb_put _ 32 _ _ (by decide) hi, tb_put _ 256 _ _ (by decide) hi]
  obtain ⟨j, rfl⟩ : ∃ j : Fin 64, j.val = i := ⟨⟨i, hi⟩, rfl⟩
  generalize s.testBit j.val = a
  generalize s.testBit 1 = b
  clear hi hs
  revert j a b; decide +kernel
set_option maxRecDepth 100000 in
theorem refM_0 (s : Nat) (hs : s < 18446744073709551616) : putN (putN (putN (putN s 2048 false) 4096 false) 128 (s.testBit 3)) 8 false = eM s 0 := by
  refine e64 (put_lt _ (put_lt _ (put_lt _ (put_lt _ hs (by decide)) (by decide)) (by decide)) (by decide)) (eM_lt s 0 hs (Or.inl rfl)) (fun i hi => ?_)
  rw [eM_bit s 0 i hi, tb_put _ 8 _ _ (by decide) hi, tb_put _ 128 _ _ (by decide) hi, tb_put _ 4096 _ _ (by decide) hi, tb_put _ 2048 _ _ (by decide) hi]
  obtain ⟨j, rfl⟩ : ∃ j : Fin 64, j.val = i := ⟨⟨i, hi⟩, rfl⟩
  generalize s.testBit j.val = a
  generalize s.testBit 3 = b
  clear hi hs
  revert j a b; decide +kernel
set_option maxRecDepth 100000 in
theorem refM_1 (s : Nat) (hs : s < 18446744073709551616) : putN (putN (putN (putN s 2048 true) 4096 false) 128 (s.testBit 3)) 8 false = eM s 1 := by
  refine e64 (put_lt _ (put_lt _ (put_lt _ (put_lt _ hs (by decide)) (by decide)) (by decide)) (by decide)) (eM_lt s 1 hs (Or.inr (Or.inl rfl))) (fun i hi => ?_)
  rw [eM_bit s 1 i hi, tb_put _ 8 _ _ (by decide) hi, tb_put _ 128 _ _ (by decide) hi, tb_put _ 4096 _ _ (by decide) hi, tb_put _ 2048 _ _ (by decide) hi]
  obtain ⟨j, rfl⟩ : ∃ j : Fin 64, j.val = i := ⟨⟨i, hi⟩, rfl⟩
  generalize s.testBit j.val = a
  generalize s.testBit 3 = b
  clear hi hs
  revert j a b; decide +kernel
set_option maxRecDepth 100000 in
theorem refM_3 (s : Nat) (hs : s < 18446744073709551616) : putN (putN (putN (putN s 2048 true) 4096 true) 128 (s.testBit 3)) 8 false = eM s 3 := by
  refine e64 (put_lt _ (put_lt _ (put_lt _ (put_lt _ hs (by decide)) (by decide)) (by decide)) (by decide)) (eM_lt s 3 hs (Or.inr (Or.inr rfl))) (fun i hi => ?_)
  rw [eM_bit s 3 i hi, tb_put _ 8 _ _ (by decide) hi, tb_put _ 128 _ _ (by decide) hi, tb_put _ 4096 _ _ (by decide) hi, tb_put _ 2048 _ _ (by decide) hi]
  obtain ⟨j, rfl⟩ : ∃ j : Fin 64, j.val = i := ⟨⟨i, hi⟩, rfl⟩
  generalize s.testBit j.val = a
  generalize s.testBit 3 = b
  clear hi hs
  revert j a b; decide +kernel
set_option maxRecDepth 100000 in
set_option maxHeartbeats 1000000 in
theorem enterRS_0 (S : Nat → Nat) (m : Int) (pc c v : Nat) (hS : Hid (OkS S)) (hp : Hid (pc < 18446744073709551616)) (hc : Hid (c < 18446744073709551616)) (hv : Hid (v < 18446744073709551616)) (ht : tkI m = 0) (hd : delB S c = true) (w : World) :
    Calls Tryd.prog 10 #[.agg (cs S), .int .i64 m, .int .u64 pc, .int .u64 c, .int .u64 v] w (RetE (toS S 0 pc c v) 1 (vecN (S 14) c) w) := by
  have PT : Hid (∀ u, Calls Tryd.prog 20 #[.int .i64 m] u (RetIX 0 u)) := fun u => by have := mode_c m u; rw [ht] at this; exact this
  have PI : Hid (∀ u, Calls Tryd.prog 21 #[.int .u64 c, .int .i64 63] u (RetBX (c.testBit 63) u)) := fun u => bit_c c 63 hc (by decide) u
  have PV : Hid (∀ u, Calls Tryd.prog 23 #[.int .u64 (S 14 : Nat), .int .u64 c] u (RetUX (vecN (S 14) c) u)) := fun u => vecr_c (S 14) c (hS.out.u 14 (by decide)) hc u
  have f1 : bits .andNot .u64 (pc : Int) 1 = ((pc &&& 18446744073709551614 : Nat) : Int) := u_andNot pc 1 hp.out (by decide)
  obtain ⟨s, hs⟩ : ∃ s, S 0 = s := ⟨_, rfl⟩
  have ls : Hid (s < 18446744073709551616) := by show _ < _; rw [← hs]; exact hS.out.u 0 (by decide)
  obtain ⟨x1, hx1⟩ : ∃ y, putN s 256 false = y := ⟨_, rfl⟩
  have lx1 : Hid (x1 < 18446744073709551616) := by show _ < _; rw [← hx1]; exact put_lt _ ls.out (by decide)
  have Px1 : Hid (∀ u, Calls Tryd.prog 22 #[.int .u64 s, .int .i64 8, .bool false] u (RetUX x1 u)) := fun u => by
    have := with_c s 8 ls (by decide) false u
    rw [show (2 : Nat) ^ 8 = 256 from rfl, hx1] at this; exact this
  obtain ⟨bo, hbo⟩ : ∃ y, s.testBit 1 = y := ⟨_, rfl⟩
  have eb : x1.testBit 1 = bo := by
    rw [← hbo, ← hx1, tb_put _ 256 _ 1 (by decide) (by decide)]
    generalize s.testBit 1 = q
    revert q; decide +kernel
  have PB : Hid (∀ u, Calls Tryd.prog 21 #[.int .u64 x1, .int .i64 1] u (RetBX bo u)) := fun u => by
    have := bit_c x1 1 lx1 (by decide) u
    rw [eb] at this; exact this
  obtain ⟨x2, hx2⟩ : ∃ y, putN x1 32 bo = y := ⟨_, rfl⟩
  have lx2 : Hid (x2 < 18446744073709551616) := by show _ < _; rw [← hx2]; exact put_lt _ lx1.out (by decide)
  have Px2 : Hid (∀ u, Calls Tryd.prog 22 #[.int .u64 x1, .int .i64 5, .bool bo] u (RetUX x2 u)) := fun u => by
    have := with_c x1 5 lx1 (by decide) bo u
    rw [show (2 : Nat) ^ 5 = 32 from rfl, hx2] at this; exact this
  obtain ⟨x3, hx3⟩ : ∃ y, putN x2 2 false = y := ⟨_, rfl⟩
  have lx3 : Hid (x3 < 18446744073709551616) := by show _ < _; rw [← hx3]; exact put_lt _ lx2.out (by decide)
  have Px3 : Hid (∀ u, Calls Tryd.prog 22 #[.int .u64 x2, .int .i64 1, .bool false] u (RetUX x3 u)) := fun u => by
    have := with_c x2 1 lx2 (by decide) false u
    rw [show (2 : Nat) ^ 1 = 2 from rfl, hx3] at this; exact this
  have f6 := and63n c hc.out
  have n6 : c % 64 < 64 := Nat.mod_lt _ (by decide)
  have PD2 : Hid (c.testBit 63 = false → ∀ u, Calls Tryd.prog 21 #[.int .u64 (S 2 : Nat), .int .i64 ((c % 64 : Nat) : Int)] u (RetBX true u)) := fun hb u => by
    have := bit_c (S 2) (c % 64) (hS.out.u 2 (by decide)) n6 u
    unfold delB at hd; rw [hb] at hd; simp only [cond_false] at hd; rw [hd] at this; exact this
  have PD3 : Hid (c.testBit 63 = true → ∀ u, Calls Tryd.prog 21 #[.int .u64 (S 3 : Nat), .int .i64 ((c % 64 : Nat) : Int)] u (RetBX true u)) := fun hb u => by
    have := bit_c (S 3) (c % 64) (hS.out.u 3 (by decide)) n6 u
    unfold delB at hd; rw [hb] at hd; simp only [cond_true] at hd; rw [hd] at this; exact this
  generalize c % 64 = q6 at f6 n6 PD2 PD3
  have w6' : wrap64 (q6 : Int) = (q6 : Int) := (by unfold wrap64; omega)
  obtain ⟨TT, hTT⟩ : ∃ TT, toS S 0 pc c v = TT := ⟨_, rfl⟩
  rw [hTT]
  unfold toS at hTT
  rw [hs, ← refS_0 s ls.out, hx1, hbo, hx2, hx3] at hTT
  generalize pc &&& 18446744073709551614 = p at f1 hTT
  have y2 : S 14 = setN (setN (setN (setN S 15 p) 16 c) 17 v) 0 x3 14 := rfl
  have ga : (cs S)[15]? = some (.int .u64 (S 15 : Nat)) := rfl
  have g0 : (cs S)[0]? = some (.int .u64 s) := by rw [← hs]; rfl
  have g2 : (cs S)[2]? = some (.int .u64 (S 2 : Nat)) := rfl
  have g3 : (cs S)[3]? = some (.int .u64 (S 3 : Nat)) := rfl
  have gs1 := cs_set S 15 p (by unfold isU; decide)
  obtain ⟨Sa, hSa⟩ : ∃ Sa, setN S 15 p = Sa := ⟨_, rfl⟩
  rw [hSa] at gs1 hTT y2
  have gb : (cs Sa)[16]? = some (.int .u64 (Sa 16 : Nat)) := rfl
  have gs2 := cs_set Sa 16 c (by unfold isU; decide)
  obtain ⟨Sb, hSb⟩ : ∃ Sb, setN Sa 16 c = Sb := ⟨_, rfl⟩
  rw [hSb] at gs2 hTT y2
  have gc : (cs Sb)[17]? = some (.int .u64 (Sb 17 : Nat)) := rfl
  have gs3 := cs_set Sb 17 v (by unfold isU; decide)
  obtain ⟨Sc, hSc⟩ : ∃ Sc, setN Sb 17 v = Sc := ⟨_, rfl⟩
  rw [hSc] at gs3 hTT y2
  have gd : (cs Sc)[0]? = some (.int .u64 (Sc 0 : Nat)) := rfl
  have gs4 := cs_set Sc 0 x3 (by unfold isU; decide)
  rw [hTT] at gs4 y2
  rw [y2] at PV ⊢
  obtain ⟨vn, hvn⟩ : ∃ vn, vecN (TT 14) c = vn := ⟨_, rfl⟩
  rw [hvn] at PV ⊢
  obtain ⟨w6, hW⟩ : ∃ W1, W1 = (w.alloc (Obj.cells (cs TT) 26)).alloc (Obj.cells (cs Z38) 26) := ⟨_, rfl⟩
  have HG : Hid (Gs w [(w.heap.size + 1, Z38), (w.heap.size, TT)] w6) := by
    obtain ⟨r1, r2⟩ := two_rows w TT Z38
    rw [← hW] at r1 r2
    have hz : w6.heap.size = w.heap.size + 2 := by rw [hW, sz_alloc, sz_alloc]
    refine ⟨by rw [hW]; exact (by repeat (first | (with_reducible first | exact Below.refl _ _ | assumption | exact Nat.le_refl _ | refine Below.drew ?_ | refine Below.alloc ?_ ?_ _ | refine Below.setCell ?_ ?_ _ | refine le_alloc ?_ | refine le_set ?_ | refine le_drew ?_ | refine below_step (by assumption) ?_ ?_ | refine le_below (by assumption) ?_) | (dsimp only; omega))), fun p hp => ?_⟩
    rcases List.mem_cons.1 hp with rfl | hp
    · exact ⟨Nat.le_succ _, by rw [hz]; exact Nat.lt_succ_self _, r2⟩
    · obtain rfl := List.mem_singleton.1 hp
      exact ⟨Nat.le_refl _, by rw [hz]; omega, r1⟩
  have HW := Lib.hid hW
  clear hW hTT hSa hSb hSc y2 hS hp hc hv ht hvn hs ls hx1 lx1 hx2 lx2 hx3 lx3 hbo eb hd n6
  generalize c.testBit 63 = A at PI PD2 PD3
  cases A
  · go_enter Tryd.func10, Tryd.ntmps10
    go_wp2_with fail
    refine (PT.out _).mono ?_; rintro e w1 ⟨rfl, h⟩; replace h := h.symm; subst h
    go_wp2_with fail
    refine (PI.out _).mono ?_; rintro e w1 ⟨rfl, h⟩; replace h := h.symm; subst h
    go_wp2_with fail
    refine (PD2.out (by trivial) _).mono ?_; rintro e w1 ⟨rfl, h⟩; replace h := h.symm; subst h
    go_wp2_with fail
    refine (Px1.out _).mono ?_; rintro e w1 ⟨rfl, h⟩; replace h := h.symm; subst h
    go_wp2_with fail
    refine (PB.out _).mono ?_; rintro e w1 ⟨rfl, h⟩; replace h := h.symm; subst h
    go_wp2_with fail
    refine (Px2.out _).mono ?_; rintro e w1 ⟨rfl, h⟩; replace h := h.symm; subst h
    go_wp2_with fail
    refine (Px3.out _).mono ?_; rintro e w1 ⟨rfl, h⟩; replace h := h.symm; subst h
    go_wp2_with fail
    rw [show (w.alloc (Obj.cells (cs TT) 26)).alloc (Obj.cells #[.int .u64 0, .int .u64 0, .int .u64 0, .int .u64 0, .int .u64 0, .int .u64 0, .int .u64 0, .int .u64 0, .int .u64 0, .int .u64 0, .int .u64 0, .int .u64 0, .int .u64 0, .int .u64 0, .int .u64 0, .int .u64 0, .int .u64 0, .int .u64 0, .int .u64 0, .int .u64 0, .int .u64 0, .int .u64 0, .int .u8 0, .int .u8 0, .int .u8 0, .int .u8 0, .int .u8 0, .int .u8 0, .int .u8 0, .int .u8 0, .int .u64 0, .int .u64 0, .int .u64 0, .int .u64 0, .int .u64 0, .int .u64 0, .int .u64 0, .int .u64 0] 26) = w6 from HW.out.symm]
    clear HW ga gb gc gd gs1 gs2 gs3 gs4 g0 g2 g3
    have HP := Lib.hid HG.out.drew
    refine wp_region_held_drew (S := Gs w [(w.heap.size, TT)]) (by kernel_rfl) HG.out.tail.drew (fun hHeld => ?_)
    refine wpAnyH_take (i := 0) (v := .agg (cs TT)) rfl (by kernel_rfl) (by kernel_rfl) (by kernel_rfl) (fun _ _ _ h => h) (Or.inl ⟨by rfl, fun w' hw' => run_load_row 26 _ rfl w.heap.size rfl 26 (cs TT) (0, 0) _ (hw'.row w.heap.size TT (by simp)) Tryd.underlying26 rfl (infoS _)⟩) hHeld ?_
    simp only [Act.put, List.setIfInBounds_toArray, List.set_cons_zero, List.set_cons_succ]
    refine wpAnyH_take (i := 1) (v := .pointer (some ⟨w.heap.size, 14, none⟩)) rfl (by kernel_rfl) (by kernel_rfl) (by kernel_rfl) (fun _ _ _ h => h) (Or.inl ⟨by rfl, fun w' hw' => by go_simp⟩) hHeld ?_
    simp only [Act.put, List.setIfInBounds_toArray, List.set_cons_zero, List.set_cons_succ]
    refine wpAnyH_take (i := 2) (v := .int .u64 (TT 14 : Nat)) rfl (by kernel_rfl) (by kernel_rfl) (by kernel_rfl) (fun _ _ _ h => h) (Or.inl ⟨by rfl, fun w' hw' => by have k9 := hw'.u w.heap.size TT (by simp) 14 (by unfold isU; decide); go_simp⟩) hHeld ?_
    simp only [Act.put, List.setIfInBounds_toArray, List.set_cons_zero, List.set_cons_succ]
    refine wpAnyH_take (i := 3) (v := .int .u64 (c : Nat)) rfl (by kernel_rfl) (by kernel_rfl) (by kernel_rfl) (fun _ _ _ h => h) (Or.inl ⟨by rfl, fun w' hw' => by go_simp⟩) hHeld ?_
    simp only [Act.put, List.setIfInBounds_toArray, List.set_cons_zero, List.set_cons_succ]
    clear hHeld
    generalize w6.drew = wy at HP ⊢
    clear HG
    refine wpAnyH_ready (rs := [4]) (by kernel_rfl) (by simp) ?_
    refine AllReadyH.cons rfl (fun K hK => ?_) (AllReadyH.nil)
    go_simp
    go_wp2_with (go_at_call 23; refine (PV.out _).mono ?_; rintro e wb ⟨rfl, h⟩; replace h := h.symm; subst h)
    refine on_to hK (fun w' => Gs w [(w.heap.size + 1, Z38), (w.heap.size, TT)] w') _ _ HP.out (fun w' h => h.tail) ?_
    intro wz1 hp
    clear hK
    replace hp := Lib.hid hp
    refine wpAnyH_ready (rs := [5]) (by kernel_rfl) (by simp) ?_
    refine AllReadyH.cons rfl (fun K hK => ?_) (AllReadyH.nil)
    rw [if_pos (by rfl)]
    refine wp_store_row 26 _ _ rfl (w.heap.size + 1) (cs TT) rfl rfl 26 (cs Z38) (hp.out.row (w.heap.size + 1) Z38 (by simp)) (infoS _) rfl (oneS _) ?_
    refine on_to hK (fun w' => Gs w [(w.heap.size + 1, TT), (w.heap.size, TT)] w') _ _ (gs_row hp.out (by simp)) (fun w' h => h.tail) ?_
    intro wz2 hp
    clear hK
    replace hp := Lib.hid hp
    refine wpAnyH_ready (rs := [6]) (by kernel_rfl) (by simp) ?_
    refine AllReadyH.cons rfl (fun K hK => ?_) (AllReadyH.nil)
    go_simp
    refine on_to hK (fun w' => Gs w [(w.heap.size + 1, TT), (w.heap.size, TT)] w') _ _ hp.out (fun w' h => h.tail) ?_
    intro wz3 hp
    clear hK
    replace hp := Lib.hid hp
    refine wpAnyH_ready (rs := [7]) (by kernel_rfl) (by simp) ?_
    refine AllReadyH.cons rfl (fun K hK => ?_) (AllReadyH.nil)
    go_simp
    refine on_to hK (fun w' => Gs w [(w.heap.size + 1, TT), (w.heap.size, TT)] w') _ _ hp.out (fun w' h => h.tail) ?_
    intro wz4 hp
    clear hK
    replace hp := Lib.hid hp
    refine wpAnyH_done (by decide +kernel) ?_ _
    go_wp2_with fail
    refine bodyPost_ret (results_row3 rfl _ _ (w.heap.size + 1) 26 (cs TT) (0, 0) _ rfl (hp.out.row (w.heap.size + 1) TT (by simp)) Tryd.underlying26 rfl (infoS _)) rfl ?_
    exact ⟨rfl, hp.out.1⟩
  · go_enter Tryd.func10, Tryd.ntmps10
    go_wp2_with fail
    refine (PT.out _).mono ?_; rintro e w1 ⟨rfl, h⟩; replace h := h.symm; subst h
    go_wp2_with fail
    refine (PI.out _).mono ?_; rintro e w1 ⟨rfl, h⟩; replace h := h.symm; subst h
    go_wp2_with fail
    refine (PD3.out (by trivial) _).mono ?_; rintro e w1 ⟨rfl, h⟩; replace h := h.symm; subst h
    go_wp2_with fail
    refine (Px1.out _).mono ?_; rintro e w1 ⟨rfl, h⟩; replace h := h.symm; subst h
    go_wp2_with fail
    refine (PB.out _).mono ?_; rintro e w1 ⟨rfl, h⟩; replace h := h.symm; subst h
    go_wp2_with fail
    refine (Px2.out _).mono ?_; rintro e w1 ⟨rfl, h⟩; replace h := h.symm; subst h
    go_wp2_with fail
    refine (Px3.out _).mono ?_; rintro e w1 ⟨rfl, h⟩; replace h := h.symm; subst h
    go_wp2_with fail
    rw [show (w.alloc (Obj.cells (cs TT) 26)).alloc (Obj.cells #[.int .u64 0, .int .u64 0, .int .u64 0, .int .u64 0, .int .u64 0, .int .u64 0, .int .u64 0, .int .u64 0, .int .u64 0, .int .u64 0, .int .u64 0, .int .u64 0, .int .u64 0, .int .u64 0, .int .u64 0, .int .u64 0, .int .u64 0, .int .u64 0, .int .u64 0, .int .u64 0, .int .u64 0, .int .u64 0, .int .u8 0, .int .u8 0, .int .u8 0, .int .u8 0, .int .u8 0, .int .u8 0, .int .u8 0, .int .u8 0, .int .u64 0, .int .u64 0, .int .u64 0, .int .u64 0, .int .u64 0, .int .u64 0, .int .u64 0, .int .u64 0] 26) = w6 from HW.out.symm]
    clear HW ga gb gc gd gs1 gs2 gs3 gs4 g0 g2 g3
    have HP := Lib.hid HG.out.drew
    refine wp_region_held_drew (S := Gs w [(w.heap.size, TT)]) (by kernel_rfl) HG.out.tail.drew (fun hHeld => ?_)
    refine wpAnyH_take (i := 0) (v := .agg (cs TT)) rfl (by kernel_rfl) (by kernel_rfl) (by kernel_rfl) (fun _ _ _ h => h) (Or.inl ⟨by rfl, fun w' hw' => run_load_row 26 _ rfl w.heap.size rfl 26 (cs TT) (0, 0) _ (hw'.row w.heap.size TT (by simp)) Tryd.underlying26 rfl (infoS _)⟩) hHeld ?_
    simp only [Act.put, List.setIfInBounds_toArray, List.set_cons_zero, List.set_cons_succ]
    refine wpAnyH_take (i := 1) (v := .pointer (some ⟨w.heap.size, 14, none⟩)) rfl (by kernel_rfl) (by kernel_rfl) (by kernel_rfl) (fun _ _ _ h => h) (Or.inl ⟨by rfl, fun w' hw' => by go_simp⟩) hHeld ?_
    simp only [Act.put, List.setIfInBounds_toArray, List.set_cons_zero, List.set_cons_succ]
    refine wpAnyH_take (i := 2) (v := .int .u64 (TT 14 : Nat)) rfl (by kernel_rfl) (by kernel_rfl) (by kernel_rfl) (fun _ _ _ h => h) (Or.inl ⟨by rfl, fun w' hw' => by have k9 := hw'.u w.heap.size TT (by simp) 14 (by unfold isU; decide); go_simp⟩) hHeld ?_
    simp only [Act.put, List.setIfInBounds_toArray, List.set_cons_zero, List.set_cons_succ]
    refine wpAnyH_take (i := 3) (v := .int .u64 (c : Nat)) rfl (by kernel_rfl) (by kernel_rfl) (by kernel_rfl) (fun _ _ _ h => h) (Or.inl ⟨by rfl, fun w' hw' => by go_simp⟩) hHeld ?_
    simp only [Act.put, List.setIfInBounds_toArray, List.set_cons_zero, List.set_cons_succ]
    clear hHeld
    generalize w6.drew = wy at HP ⊢
    clear HG
    refine wpAnyH_ready (rs := [4]) (by kernel_rfl) (by simp) ?_
    refine AllReadyH.cons rfl (fun K hK => ?_) (AllReadyH.nil)
    go_simp
    go_wp2_with (go_at_call 23; refine (PV.out _).mono ?_; rintro e wb ⟨rfl, h⟩; replace h := h.symm; subst h)
    refine on_to hK (fun w' => Gs w [(w.heap.size + 1, Z38), (w.heap.size, TT)] w') _ _ HP.out (fun w' h => h.tail) ?_
    intro wz1 hp
    clear hK
    replace hp := Lib.hid hp
    refine wpAnyH_ready (rs := [5]) (by kernel_rfl) (by simp) ?_
    refine AllReadyH.cons rfl (fun K hK => ?_) (AllReadyH.nil)
    rw [if_pos (by rfl)]
    refine wp_store_row 26 _ _ rfl (w.heap.size + 1) (cs TT) rfl rfl 26 (cs Z38) (hp.out.row (w.heap.size + 1) Z38 (by simp)) (infoS _) rfl (oneS _) ?_
    refine on_to hK (fun w' => Gs w [(w.heap.size + 1, TT), (w.heap.size, TT)] w') _ _ (gs_row hp.out (by simp)) (fun w' h => h.tail) ?_
    intro wz2 hp
    clear hK
    replace hp := Lib.hid hp
    refine wpAnyH_ready (rs := [6]) (by kernel_rfl) (by simp) ?_
    refine AllReadyH.cons rfl (fun K hK => ?_) (AllReadyH.nil)
    go_simp
    refine on_to hK (fun w' => Gs w [(w.heap.size + 1, TT), (w.heap.size, TT)] w') _ _ hp.out (fun w' h => h.tail) ?_
    intro wz3 hp
    clear hK
    replace hp := Lib.hid hp
    refine wpAnyH_ready (rs := [7]) (by kernel_rfl) (by simp) ?_
    refine AllReadyH.cons rfl (fun K hK => ?_) (AllReadyH.nil)
    go_simp
    refine on_to hK (fun w' => Gs w [(w.heap.size + 1, TT), (w.heap.size, TT)] w') _ _ hp.out (fun w' h => h.tail) ?_
    intro wz4 hp
    clear hK
    replace hp := Lib.hid hp
    refine wpAnyH_done (by decide +kernel) ?_ _
    go_wp2_with fail
    refine bodyPost_ret (results_row3 rfl _ _ (w.heap.size + 1) 26 (cs TT) (0, 0) _ rfl (hp.out.row (w.heap.size + 1) TT (by simp)) Tryd.underlying26 rfl (infoS _)) rfl ?_
    exact ⟨rfl, hp.out.1⟩
set_option maxRecDepth 100000 in
set_option maxHeartbeats 1000000 in
theorem enterRS_1 (S : Nat → Nat) (m : Int) (pc c v : Nat) (hS : Hid (OkS S)) (hp : Hid (pc < 18446744073709551616)) (hc : Hid (c < 18446744073709551616)) (hv : Hid (v < 18446744073709551616)) (ht : tkI m = 1) (hd : delB S c = true) (w : World) :
    Calls Tryd.prog 10 #[.agg (cs S), .int .i64 m, .int .u64 pc, .int .u64 c, .int .u64 v] w (RetE (toS S 1 pc c v) 1 (vecN (S 14) c) w) := by
  have PT : Hid (∀ u, Calls Tryd.prog 20 #[.int .i64 m] u (RetIX 1 u)) := fun u => by have := mode_c m u; rw [ht] at this; exact this
  have PI : Hid (∀ u, Calls Tryd.prog 21 #[.int .u64 c, .int .i64 63] u (RetBX (c.testBit 63) u)) := fun u => bit_c c 63 hc (by decide) u
  have PV : Hid (∀ u, Calls Tryd.prog 23 #[.int .u64 (S 14 : Nat), .int .u64 c] u (RetUX (vecN (S 14) c) u)) := fun u => vecr_c (S 14) c (hS.out.u 14 (by decide)) hc u
  have f1 : bits .andNot .u64 (pc : Int) 1 = ((pc &&& 18446744073709551614 : Nat) : Int) := u_andNot pc 1 hp.out (by decide)
  obtain ⟨s, hs⟩ : ∃ s, S 0 = s := ⟨_, rfl⟩
  have ls : Hid (s < 18446744073709551616) := by show _ < _; rw [← hs]; exact hS.out.u 0 (by decide)
  obtain ⟨x1, hx1⟩ : ∃ y, putN s 256 true = y := ⟨_, rfl⟩
  have lx1 : Hid (x1 < 18446744073709551616) := by show _ < _; rw [← hx1]; exact put_lt _ ls.out (by decide)
  have Px1 : Hid (∀ u, Calls Tryd.prog 22 #[.int .u64 s, .int .i64 8, .bool true] u (RetUX x1 u)) := fun u => by
    have := with_c s 8 ls (by decide) true u
    rw [show (2 : Nat) ^ 8 = 256 from rfl, hx1] at this; exact this
  obtain ⟨bo, hbo⟩ : ∃ y, s.testBit 1 = y := ⟨_, rfl⟩
  have eb : x1.testBit 1 = bo := by
    rw [← hbo, ← hx1, tb_put _ 256 _ 1 (by decide) (by decide)]
    generalize s.testBit 1 = q
    revert q; decide +kernel
  have PB : Hid (∀ u, Calls Tryd.prog 21 #[.int .u64 x1, .int .i64 1] u (RetBX bo u)) := fun u => by
    have := bit_c x1 1 lx1 (by decide) u
    rw [eb] at this; exact this
  obtain ⟨x2, hx2⟩ : ∃ y, putN x1 32 bo = y := ⟨_, rfl⟩
  have lx2 : Hid (x2 < 18446744073709551616) := by show _ < _; rw [← hx2]; exact put_lt _ lx1.out (by decide)
  have Px2 : Hid (∀ u, Calls Tryd.prog 22 #[.int .u64 x1, .int .i64 5, .bool bo] u (RetUX x2 u)) := fun u => by
    have := with_c x1 5 lx1 (by decide) bo u
    rw [show (2 : Nat) ^ 5 = 32 from rfl, hx2] at this; exact this
  obtain ⟨x3, hx3⟩ : ∃ y, putN x2 2 false = y := ⟨_, rfl⟩
  have lx3 : Hid (x3 < 18446744073709551616) := by show _ < _; rw [← hx3]; exact put_lt _ lx2.out (by decide)
  have Px3 : Hid (∀ u, Calls Tryd.prog 22 #[.int .u64 x2, .int .i64 1, .bool false] u (RetUX x3 u)) := fun u => by
    have := with_c x2 1 lx2 (by decide) false u
    rw [show (2 : Nat) ^ 1 = 2 from rfl, hx3] at this; exact this
  have f6 := and63n c hc.out
  have n6 : c % 64 < 64 := Nat.mod_lt _ (by decide)
  have PD2 : Hid (c.testBit 63 = false → ∀ u, Calls Tryd.prog 21 #[.int .u64 (S 2 : Nat), .int .i64 ((c % 64 : Nat) : Int)] u (RetBX true u)) := fun hb u => by
    have := bit_c (S 2) (c % 64) (hS.out.u 2 (by decide)) n6 u
    unfold delB at hd; rw [hb] at hd; simp only [cond_false] at hd; rw [hd] at this; exact this
  have PD3 : Hid (c.testBit 63 = true → ∀ u, Calls Tryd.prog 21 #[.int .u64 (S 3 : Nat), .int .i64 ((c % 64 : Nat) : Int)] u (RetBX true u)) := fun hb u => by
    have := bit_c (S 3) (c % 64) (hS.out.u 3 (by decide)) n6 u
    unfold delB at hd; rw [hb] at hd; simp only [cond_true] at hd; rw [hd] at this; exact this
  generalize c % 64 = q6 at f6 n6 PD2 PD3
  have w6' : wrap64 (q6 : Int) = (q6 : Int) := (by unfold wrap64; omega)
  obtain ⟨TT, hTT⟩ : ∃ TT, toS S 1 pc c v = TT := ⟨_, rfl⟩
  rw [hTT]
  unfold toS at hTT
  rw [hs, ← refS_1 s ls.out, hx1, hbo, hx2, hx3] at hTT
  generalize pc &&& 18446744073709551614 = p at f1 hTT
  have y2 : S 14 = setN (setN (setN (setN S 15 p) 16 c) 17 v) 0 x3 14 := rfl
  have ga : (cs S)[15]? = some (.int .u64 (S 15 : Nat)) := rfl
  have g0 : (cs S)[0]? = some (.int .u64 s) := by rw [← hs]; rfl
  have g2 : (cs S)[2]? = some (.int .u64 (S 2 : Nat)) := rfl
  have g3 : (cs S)[3]? = some (.int .u64 (S 3 : Nat)) := rfl
  have gs1 := cs_set S 15 p (by unfold isU; decide)
  obtain ⟨Sa, hSa⟩ : ∃ Sa, setN S 15 p = Sa := ⟨_, rfl⟩
  rw [hSa] at gs1 hTT y2
  have gb : (cs Sa)[16]? = some (.int .u64 (Sa 16 : Nat)) := rfl
  have gs2 := cs_set Sa 16 c (by unfold isU; decide)
  obtain ⟨Sb, hSb⟩ : ∃ Sb, setN Sa 16 c = Sb := ⟨_, rfl⟩
  rw [hSb] at gs2 hTT y2
  have gc : (cs Sb)[17]? = some (.int .u64 (Sb 17 : Nat)) := rfl
  have gs3 := cs_set Sb 17 v (by unfold isU; decide)
  obtain ⟨Sc, hSc⟩ : ∃ Sc, setN Sb 17 v = Sc := ⟨_, rfl⟩
  rw [hSc] at gs3 hTT y2
  have gd : (cs Sc)[0]? = some (.int .u64 (Sc 0 : Nat)) := rfl
  have gs4 := cs_set Sc 0 x3 (by unfold isU; decide)
  rw [hTT] at gs4 y2
  rw [y2] at PV ⊢
  obtain ⟨vn, hvn⟩ : ∃ vn, vecN (TT 14) c = vn := ⟨_, rfl⟩
  rw [hvn] at PV ⊢
  obtain ⟨w6, hW⟩ : ∃ W1, W1 = (w.alloc (Obj.cells (cs TT) 26)).alloc (Obj.cells (cs Z38) 26) := ⟨_, rfl⟩
  have HG : Hid (Gs w [(w.heap.size + 1, Z38), (w.heap.size, TT)] w6) := by
    obtain ⟨r1, r2⟩ := two_rows w TT Z38
    rw [← hW] at r1 r2
    have hz : w6.heap.size = w.heap.size + 2 := by rw [hW, sz_alloc, sz_alloc]
    refine ⟨by rw [hW]; exact (by repeat (first | (with_reducible first | exact Below.refl _ _ | assumption | exact Nat.le_refl _ | refine Below.drew ?_ | refine Below.alloc ?_ ?_ _ | refine Below.setCell ?_ ?_ _ | refine le_alloc ?_ | refine le_set ?_ | refine le_drew ?_ | refine below_step (by assumption) ?_ ?_ | refine le_below (by assumption) ?_) | (dsimp only; omega))), fun p hp => ?_⟩
    rcases List.mem_cons.1 hp with rfl | hp
    · exact ⟨Nat.le_succ _, by rw [hz]; exact Nat.lt_succ_self _, r2⟩
    · obtain rfl := List.mem_singleton.1 hp
      exact ⟨Nat.le_refl _, by rw [hz]; omega, r1⟩
  have HW := Lib.hid hW
  clear hW hTT hSa hSb hSc y2 hS hp hc hv ht hvn hs ls hx1 lx1 hx2 lx2 hx3 lx3 hbo eb hd n6
  generalize c.testBit 63 = A at PI PD2 PD3
  cases A
  · go_enter Tryd.func10, Tryd.ntmps10
    go_wp2_with fail
    refine (PT.out _).mono ?_; rintro e w1 ⟨rfl, h⟩; replace h := h.symm; subst h
    go_wp2_with fail
    refine (PI.out _).mono ?_; rintro e w1 ⟨rfl, h⟩; replace h := h.symm; subst h
    go_wp2_with fail
    refine (PD2.out (by trivial) _).mono ?_; rintro e w1 ⟨rfl, h⟩; replace h := h.symm; subst h
    go_wp2_with fail
    refine (Px1.out _).mono ?_; rintro e w1 ⟨rfl, h⟩; replace h := h.symm; subst h
    go_wp2_with fail
    refine (PB.out _).mono ?_; rintro e w1 ⟨rfl, h⟩; replace h := h.symm; subst h
    go_wp2_with fail
    refine (Px2.out _).mono ?_; rintro e w1 ⟨rfl, h⟩; replace h := h.symm; subst h
    go_wp2_with fail
    refine (Px3.out _).mono ?_; rintro e w1 ⟨rfl, h⟩; replace h := h.symm; subst h
    go_wp2_with fail
    rw [show (w.alloc (Obj.cells (cs TT) 26)).alloc (Obj.cells #[.int .u64 0, .int .u64 0, .int .u64 0, .int .u64 0, .int .u64 0, .int .u64 0, .int .u64 0, .int .u64 0, .int .u64 0, .int .u64 0, .int .u64 0, .int .u64 0, .int .u64 0, .int .u64 0, .int .u64 0, .int .u64 0, .int .u64 0, .int .u64 0, .int .u64 0, .int .u64 0, .int .u64 0, .int .u64 0, .int .u8 0, .int .u8 0, .int .u8 0, .int .u8 0, .int .u8 0, .int .u8 0, .int .u8 0, .int .u8 0, .int .u64 0, .int .u64 0, .int .u64 0, .int .u64 0, .int .u64 0, .int .u64 0, .int .u64 0, .int .u64 0] 26) = w6 from HW.out.symm]
    clear HW ga gb gc gd gs1 gs2 gs3 gs4 g0 g2 g3
    have HP := Lib.hid HG.out.drew
    refine wp_region_held_drew (S := Gs w [(w.heap.size, TT)]) (by kernel_rfl) HG.out.tail.drew (fun hHeld => ?_)
    refine wpAnyH_take (i := 0) (v := .agg (cs TT)) rfl (by kernel_rfl) (by kernel_rfl) (by kernel_rfl) (fun _ _ _ h => h) (Or.inl ⟨by rfl, fun w' hw' => run_load_row 26 _ rfl w.heap.size rfl 26 (cs TT) (0, 0) _ (hw'.row w.heap.size TT (by simp)) Tryd.underlying26 rfl (infoS _)⟩) hHeld ?_
    simp only [Act.put, List.setIfInBounds_toArray, List.set_cons_zero, List.set_cons_succ]
    refine wpAnyH_take (i := 1) (v := .pointer (some ⟨w.heap.size, 14, none⟩)) rfl (by kernel_rfl) (by kernel_rfl) (by kernel_rfl) (fun _ _ _ h => h) (Or.inl ⟨by rfl, fun w' hw' => by go_simp⟩) hHeld ?_
    simp only [Act.put, List.setIfInBounds_toArray, List.set_cons_zero, List.set_cons_succ]
    refine wpAnyH_take (i := 2) (v := .int .u64 (TT 14 : Nat)) rfl (by kernel_rfl) (by kernel_rfl) (by kernel_rfl) (fun _ _ _ h => h) (Or.inl ⟨by rfl, fun w' hw' => by have k9 := hw'.u w.heap.size TT (by simp) 14 (by unfold isU; decide); go_simp⟩) hHeld ?_
    simp only [Act.put, List.setIfInBounds_toArray, List.set_cons_zero, List.set_cons_succ]
    refine wpAnyH_take (i := 3) (v := .int .u64 (c : Nat)) rfl (by kernel_rfl) (by kernel_rfl) (by kernel_rfl) (fun _ _ _ h => h) (Or.inl ⟨by rfl, fun w' hw' => by go_simp⟩) hHeld ?_
    simp only [Act.put, List.setIfInBounds_toArray, List.set_cons_zero, List.set_cons_succ]
    clear hHeld
    generalize w6.drew = wy at HP ⊢
    clear HG
    refine wpAnyH_ready (rs := [4]) (by kernel_rfl) (by simp) ?_
    refine AllReadyH.cons rfl (fun K hK => ?_) (AllReadyH.nil)
    go_simp
    go_wp2_with (go_at_call 23; refine (PV.out _).mono ?_; rintro e wb ⟨rfl, h⟩; replace h := h.symm; subst h)
    refine on_to hK (fun w' => Gs w [(w.heap.size + 1, Z38), (w.heap.size, TT)] w') _ _ HP.out (fun w' h => h.tail) ?_
    intro wz1 hp
    clear hK
    replace hp := Lib.hid hp
    refine wpAnyH_ready (rs := [5]) (by kernel_rfl) (by simp) ?_
    refine AllReadyH.cons rfl (fun K hK => ?_) (AllReadyH.nil)
    rw [if_pos (by rfl)]
    refine wp_store_row 26 _ _ rfl (w.heap.size + 1) (cs TT) rfl rfl 26 (cs Z38) (hp.out.row (w.heap.size + 1) Z38 (by simp)) (infoS _) rfl (oneS _) ?_
    refine on_to hK (fun w' => Gs w [(w.heap.size + 1, TT), (w.heap.size, TT)] w') _ _ (gs_row hp.out (by simp)) (fun w' h => h.tail) ?_
    intro wz2 hp
    clear hK
    replace hp := Lib.hid hp
    refine wpAnyH_ready (rs := [6]) (by kernel_rfl) (by simp) ?_
    refine AllReadyH.cons rfl (fun K hK => ?_) (AllReadyH.nil)
    go_simp
    refine on_to hK (fun w' => Gs w [(w.heap.size + 1, TT), (w.heap.size, TT)] w') _ _ hp.out (fun w' h => h.tail) ?_
    intro wz3 hp
    clear hK
    replace hp := Lib.hid hp
    refine wpAnyH_ready (rs := [7]) (by kernel_rfl) (by simp) ?_
    refine AllReadyH.cons rfl (fun K hK => ?_) (AllReadyH.nil)
    go_simp
    refine on_to hK (fun w' => Gs w [(w.heap.size + 1, TT), (w.heap.size, TT)] w') _ _ hp.out (fun w' h => h.tail) ?_
    intro wz4 hp
    clear hK
    replace hp := Lib.hid hp
    refine wpAnyH_done (by decide +kernel) ?_ _
    go_wp2_with fail
    refine bodyPost_ret (results_row3 rfl _ _ (w.heap.size + 1) 26 (cs TT) (0, 0) _ rfl (hp.out.row (w.heap.size + 1) TT (by simp)) Tryd.underlying26 rfl (infoS _)) rfl ?_
    exact ⟨rfl, hp.out.1⟩
  · go_enter Tryd.func10, Tryd.ntmps10
    go_wp2_with fail
    refine (PT.out _).mono ?_; rintro e w1 ⟨rfl, h⟩; replace h := h.symm; subst h
    go_wp2_with fail
    refine (PI.out _).mono ?_; rintro e w1 ⟨rfl, h⟩; replace h := h.symm; subst h
    go_wp2_with fail
    refine (PD3.out (by trivial) _).mono ?_; rintro e w1 ⟨rfl, h⟩; replace h := h.symm; subst h
    go_wp2_with fail
    refine (Px1.out _).mono ?_; rintro e w1 ⟨rfl, h⟩; replace h := h.symm; subst h
    go_wp2_with fail
    refine (PB.out _).mono ?_; rintro e w1 ⟨rfl, h⟩; replace h := h.symm; subst h
    go_wp2_with fail
    refine (Px2.out _).mono ?_; rintro e w1 ⟨rfl, h⟩; replace h := h.symm; subst h
    go_wp2_with fail
    refine (Px3.out _).mono ?_; rintro e w1 ⟨rfl, h⟩; replace h := h.symm; subst h
    go_wp2_with fail
    rw [show (w.alloc (Obj.cells (cs TT) 26)).alloc (Obj.cells #[.int .u64 0, .int .u64 0, .int .u64 0, .int .u64 0, .int .u64 0, .int .u64 0, .int .u64 0, .int .u64 0, .int .u64 0, .int .u64 0, .int .u64 0, .int .u64 0, .int .u64 0, .int .u64 0, .int .u64 0, .int .u64 0, .int .u64 0, .int .u64 0, .int .u64 0, .int .u64 0, .int .u64 0, .int .u64 0, .int .u8 0, .int .u8 0, .int .u8 0, .int .u8 0, .int .u8 0, .int .u8 0, .int .u8 0, .int .u8 0, .int .u64 0, .int .u64 0, .int .u64 0, .int .u64 0, .int .u64 0, .int .u64 0, .int .u64 0, .int .u64 0] 26) = w6 from HW.out.symm]
    clear HW ga gb gc gd gs1 gs2 gs3 gs4 g0 g2 g3
    have HP := Lib.hid HG.out.drew
    refine wp_region_held_drew (S := Gs w [(w.heap.size, TT)]) (by kernel_rfl) HG.out.tail.drew (fun hHeld => ?_)
    refine wpAnyH_take (i := 0) (v := .agg (cs TT)) rfl (by kernel_rfl) (by kernel_rfl) (by kernel_rfl) (fun _ _ _ h => h) (Or.inl ⟨by rfl, fun w' hw' => run_load_row 26 _ rfl w.heap.size rfl 26 (cs TT) (0, 0) _ (hw'.row w.heap.size TT (by simp)) Tryd.underlying26 rfl (infoS _)⟩) hHeld ?_
    simp only [Act.put, List.setIfInBounds_toArray, List.set_cons_zero, List.set_cons_succ]
    refine wpAnyH_take (i := 1) (v := .pointer (some ⟨w.heap.size, 14, none⟩)) rfl (by kernel_rfl) (by kernel_rfl) (by kernel_rfl) (fun _ _ _ h => h) (Or.inl ⟨by rfl, fun w' hw' => by go_simp⟩) hHeld ?_
    simp only [Act.put, List.setIfInBounds_toArray, List.set_cons_zero, List.set_cons_succ]
    refine wpAnyH_take (i := 2) (v := .int .u64 (TT 14 : Nat)) rfl (by kernel_rfl) (by kernel_rfl) (by kernel_rfl) (fun _ _ _ h => h) (Or.inl ⟨by rfl, fun w' hw' => by have k9 := hw'.u w.heap.size TT (by simp) 14 (by unfold isU; decide); go_simp⟩) hHeld ?_
    simp only [Act.put, List.setIfInBounds_toArray, List.set_cons_zero, List.set_cons_succ]
    refine wpAnyH_take (i := 3) (v := .int .u64 (c : Nat)) rfl (by kernel_rfl) (by kernel_rfl) (by kernel_rfl) (fun _ _ _ h => h) (Or.inl ⟨by rfl, fun w' hw' => by go_simp⟩) hHeld ?_
    simp only [Act.put, List.setIfInBounds_toArray, List.set_cons_zero, List.set_cons_succ]
    clear hHeld
    generalize w6.drew = wy at HP ⊢
    clear HG
    refine wpAnyH_ready (rs := [4]) (by kernel_rfl) (by simp) ?_
    refine AllReadyH.cons rfl (fun K hK => ?_) (AllReadyH.nil)
    go_simp
    go_wp2_with (go_at_call 23; refine (PV.out _).mono ?_; rintro e wb ⟨rfl, h⟩; replace h := h.symm; subst h)
    refine on_to hK (fun w' => Gs w [(w.heap.size + 1, Z38), (w.heap.size, TT)] w') _ _ HP.out (fun w' h => h.tail) ?_
    intro wz1 hp
    clear hK
    replace hp := Lib.hid hp
    refine wpAnyH_ready (rs := [5]) (by kernel_rfl) (by simp) ?_
    refine AllReadyH.cons rfl (fun K hK => ?_) (AllReadyH.nil)
    rw [if_pos (by rfl)]
    refine wp_store_row 26 _ _ rfl (w.heap.size + 1) (cs TT) rfl rfl 26 (cs Z38) (hp.out.row (w.heap.size + 1) Z38 (by simp)) (infoS _) rfl (oneS _) ?_
    refine on_to hK (fun w' => Gs w [(w.heap.size + 1, TT), (w.heap.size, TT)] w') _ _ (gs_row hp.out (by simp)) (fun w' h => h.tail) ?_
    intro wz2 hp
    clear hK
    replace hp := Lib.hid hp
    refine wpAnyH_ready (rs := [6]) (by kernel_rfl) (by simp) ?_
    refine AllReadyH.cons rfl (fun K hK => ?_) (AllReadyH.nil)
    go_simp
    refine on_to hK (fun w' => Gs w [(w.heap.size + 1, TT), (w.heap.size, TT)] w') _ _ hp.out (fun w' h => h.tail) ?_
    intro wz3 hp
    clear hK
    replace hp := Lib.hid hp
    refine wpAnyH_ready (rs := [7]) (by kernel_rfl) (by simp) ?_
    refine AllReadyH.cons rfl (fun K hK => ?_) (AllReadyH.nil)
    go_simp
    refine on_to hK (fun w' => Gs w [(w.heap.size + 1, TT), (w.heap.size, TT)] w') _ _ hp.out (fun w' h => h.tail) ?_
    intro wz4 hp
    clear hK
    replace hp := Lib.hid hp
    refine wpAnyH_done (by decide +kernel) ?_ _
    go_wp2_with fail
    refine bodyPost_ret (results_row3 rfl _ _ (w.heap.size + 1) 26 (cs TT) (0, 0) _ rfl (hp.out.row (w.heap.size + 1) TT (by simp)) Tryd.underlying26 rfl (infoS _)) rfl ?_
    exact ⟨rfl, hp.out.1⟩
set_option maxRecDepth 100000 in
set_option maxHeartbeats 1000000 in
theorem enterRM_0 (S : Nat → Nat) (m : Int) (pc c v : Nat) (hS : Hid (OkS S)) (hp : Hid (pc < 18446744073709551616)) (hc : Hid (c < 18446744073709551616)) (hv : Hid (v < 18446744073709551616)) (ht : tkI m = 0) (hd : delB S c = false) (w : World) :
    Calls Tryd.prog 10 #[.agg (cs S), .int .i64 m, .int .u64 pc, .int .u64 c, .int .u64 v] w (RetE (toM S 0 pc c v) 3 (vecN (S 1) c) w) := by
  have PT : Hid (∀ u, Calls Tryd.prog 20 #[.int .i64 m] u (RetIX 0 u)) := fun u => by have := mode_c m u; rw [ht] at this; exact this
  have PI : Hid (∀ u, Calls Tryd.prog 21 #[.int .u64 c, .int .i64 63] u (RetBX (c.testBit 63) u)) := fun u => bit_c c 63 hc (by decide) u
  have PV : Hid (∀ u, Calls Tryd.prog 23 #[.int .u64 (S 1 : Nat), .int .u64 c] u (RetUX (vecN (S 1) c) u)) := fun u => vecr_c (S 1) c (hS.out.u 1 (by decide)) hc u
  have f1 : bits .andNot .u64 (pc : Int) 1 = ((pc &&& 18446744073709551614 : Nat) : Int) := u_andNot pc 1 hp.out (by decide)
  obtain ⟨s, hs⟩ : ∃ s, S 0 = s := ⟨_, rfl⟩
  have ls : Hid (s < 18446744073709551616) := by show _ < _; rw [← hs]; exact hS.out.u 0 (by decide)
  obtain ⟨x1, hx1⟩ : ∃ y, putN s 2048 false = y := ⟨_, rfl⟩
  have lx1 : Hid (x1 < 18446744073709551616) := by show _ < _; rw [← hx1]; exact put_lt _ ls.out (by decide)
  have Px1 : Hid (∀ u, Calls Tryd.prog 22 #[.int .u64 s, .int .i64 11, .bool false] u (RetUX x1 u)) := fun u => by
    have := with_c s 11 ls (by decide) false u
    rw [show (2 : Nat) ^ 11 = 2048 from rfl, hx1] at this; exact this
  obtain ⟨x2, hx2⟩ : ∃ y, putN x1 4096 false = y := ⟨_, rfl⟩
  have lx2 : Hid (x2 < 18446744073709551616) := by show _ < _; rw [← hx2]; exact put_lt _ lx1.out (by decide)
  have Px2 : Hid (∀ u, Calls Tryd.prog 22 #[.int .u64 x1, .int .i64 12, .bool false] u (RetUX x2 u)) := fun u => by
    have := with_c x1 12 lx1 (by decide) false u
    rw [show (2 : Nat) ^ 12 = 4096 from rfl, hx2] at this; exact this
  obtain ⟨bo, hbo⟩ : ∃ y, s.testBit 3 = y := ⟨_, rfl⟩
  have eb : x2.testBit 3 = bo := by
    rw [← hbo, ← hx2, ← hx1, tb_put _ 4096 _ 3 (by decide) (by decide), tb_put _ 2048 _ 3 (by decide) (by decide)]
    generalize s.testBit 3 = q
    revert q; decide +kernel
  have PB : Hid (∀ u, Calls Tryd.prog 21 #[.int .u64 x2, .int .i64 3] u (RetBX bo u)) := fun u => by
    have := bit_c x2 3 lx2 (by decide) u
    rw [eb] at this; exact this
  obtain ⟨x3, hx3⟩ : ∃ y, putN x2 128 bo = y := ⟨_, rfl⟩
  have lx3 : Hid (x3 < 18446744073709551616) := by show _ < _; rw [← hx3]; exact put_lt _ lx2.out (by decide)
  have Px3 : Hid (∀ u, Calls Tryd.prog 22 #[.int .u64 x2, .int .i64 7, .bool bo] u (RetUX x3 u)) := fun u => by
    have := with_c x2 7 lx2 (by decide) bo u
    rw [show (2 : Nat) ^ 7 = 128 from rfl, hx3] at this; exact this
  obtain ⟨x4, hx4⟩ : ∃ y, putN x3 8 false = y := ⟨_, rfl⟩
  have lx4 : Hid (x4 < 18446744073709551616) := by show _ < _; rw [← hx4]; exact put_lt _ lx3.out (by decide)
  have Px4 : Hid (∀ u, Calls Tryd.prog 22 #[.int .u64 x3, .int .i64 3, .bool false] u (RetUX x4 u)) := fun u => by
    have := with_c x3 3 lx3 (by decide) false u
    rw [show (2 : Nat) ^ 3 = 8 from rfl, hx4] at this; exact this
  have f6 := and63n c hc.out
  have n6 : c % 64 < 64 := Nat.mod_lt _ (by decide)
  have PD2 : Hid (c.testBit 63 = false → ∀ u, Calls Tryd.prog 21 #[.int .u64 (S 2 : Nat), .int .i64 ((c % 64 : Nat) : Int)] u (RetBX false u)) := fun hb u => by
    have := bit_c (S 2) (c % 64) (hS.out.u 2 (by decide)) n6 u
    unfold delB at hd; rw [hb] at hd; simp only [cond_false] at hd; rw [hd] at this; exact this
  have PD3 : Hid (c.testBit 63 = true → ∀ u, Calls Tryd.prog 21 #[.int .u64 (S 3 : Nat), .int .i64 ((c % 64 : Nat) : Int)] u (RetBX false u)) := fun hb u => by
    have := bit_c (S 3) (c % 64) (hS.out.u 3 (by decide)) n6 u
    unfold delB at hd; rw [hb] at hd; simp only [cond_true] at hd; rw [hd] at this; exact this
  generalize c % 64 = q6 at f6 n6 PD2 PD3
  have w6' : wrap64 (q6 : Int) = (q6 : Int) := (by unfold wrap64; omega)
  obtain ⟨TT, hTT⟩ : ∃ TT, toM S 0 pc c v = TT := ⟨_, rfl⟩
  rw [hTT]
  unfold toM at hTT
  rw [hs, ← refM_0 s ls.out, hx1, hx2, hbo, hx3, hx4] at hTT
  generalize pc &&& 18446744073709551614 = p at f1 hTT
  have y2 : S 1 = setN (setN (setN (setN S 6 p) 7 c) 8 v) 0 x4 1 := rfl
  have ga : (cs S)[6]? = some (.int .u64 (S 6 : Nat)) := rfl
  have g0 : (cs S)[0]? = some (.int .u64 s) := by rw [← hs]; rfl
  have g2 : (cs S)[2]? = some (.int .u64 (S 2 : Nat)) := rfl
  have g3 : (cs S)[3]? = some (.int .u64 (S 3 : Nat)) := rfl
  have gs1 := cs_set S 6 p (by unfold isU; decide)
  obtain ⟨Sa, hSa⟩ : ∃ Sa, setN S 6 p = Sa := ⟨_, rfl⟩
  rw [hSa] at gs1 hTT y2
  have gb : (cs Sa)[7]? = some (.int .u64 (Sa 7 : Nat)) := rfl
  have gs2 := cs_set Sa 7 c (by unfold isU; decide)
  obtain ⟨Sb, hSb⟩ : ∃ Sb, setN Sa 7 c = Sb := ⟨_, rfl⟩
  rw [hSb] at gs2 hTT y2
  have gc : (cs Sb)[8]? = some (.int .u64 (Sb 8 : Nat)) := rfl
  have gs3 := cs_set Sb 8 v (by unfold isU; decide)
  obtain ⟨Sc, hSc⟩ : ∃ Sc, setN Sb 8 v = Sc := ⟨_, rfl⟩
  rw [hSc] at gs3 hTT y2
  have gd : (cs Sc)[0]? = some (.int .u64 (Sc 0 : Nat)) := rfl
  have gs4 := cs_set Sc 0 x4 (by unfold isU; decide)
  rw [hTT] at gs4 y2
  rw [y2] at PV ⊢
  obtain ⟨vn, hvn⟩ : ∃ vn, vecN (TT 1) c = vn := ⟨_, rfl⟩
  rw [hvn] at PV ⊢
  obtain ⟨w6, hW⟩ : ∃ W1, W1 = (w.alloc (Obj.cells (cs TT) 26)).alloc (Obj.cells (cs Z38) 26) := ⟨_, rfl⟩
  have HG : Hid (Gs w [(w.heap.size + 1, Z38), (w.heap.size, TT)] w6) := by
    obtain ⟨r1, r2⟩ := two_rows w TT Z38
    rw [← hW] at r1 r2
    have hz : w6.heap.size = w.heap.size + 2 := by rw [hW, sz_alloc, sz_alloc]
    refine ⟨by rw [hW]; exact (by repeat (first | (with_reducible first | exact Below.refl _ _ | assumption | exact Nat.le_refl _ | refine Below.drew ?_ | refine Below.alloc ?_ ?_ _ | refine Below.setCell ?_ ?_ _ | refine le_alloc ?_ | refine le_set ?_ | refine le_drew ?_ | refine below_step (by assumption) ?_ ?_ | refine le_below (by assumption) ?_) | (dsimp only; omega))), fun p hp => ?_⟩
    rcases List.mem_cons.1 hp with rfl | hp
    · exact ⟨Nat.le_succ _, by rw [hz]; exact Nat.lt_succ_self _, r2⟩
    · obtain rfl := List.mem_singleton.1 hp
      exact ⟨Nat.le_refl _, by rw [hz]; omega, r1⟩
  have HW := Lib.hid hW
  clear hW hTT hSa hSb hSc y2 hS hp hc hv ht hvn hs ls hx1 lx1 hx2 lx2 hx3 lx3 hx4 lx4 hbo eb hd n6
  generalize c.testBit 63 = A at PI PD2 PD3
  cases A
  · go_enter Tryd.func10, Tryd.ntmps10
    go_wp2_with fail
    refine (PT.out _).mono ?_; rintro e w1 ⟨rfl, h⟩; replace h := h.symm; subst h
    go_wp2_with fail
    refine (PI.out _).mono ?_; rintro e w1 ⟨rfl, h⟩; replace h := h.symm; subst h
    go_wp2_with fail
    refine (PD2.out (by trivial) _).mono ?_; rintro e w1 ⟨rfl, h⟩; replace h := h.symm; subst h
    go_wp2_with fail
    refine (Px1.out _).mono ?_; rintro e w1 ⟨rfl, h⟩; replace h := h.symm; subst h
    go_wp2_with fail
    refine (Px2.out _).mono ?_; rintro e w1 ⟨rfl, h⟩; replace h := h.symm; subst h
    go_wp2_with fail
    refine (PB.out _).mono ?_; rintro e w1 ⟨rfl, h⟩; replace h := h.symm; subst h
    go_wp2_with fail
    refine (Px3.out _).mono ?_; rintro e w1 ⟨rfl, h⟩; replace h := h.symm; subst h
    go_wp2_with fail
    refine (Px4.out _).mono ?_; rintro e w1 ⟨rfl, h⟩; replace h := h.symm; subst h
    go_wp2_with fail
    rw [show (w.alloc (Obj.cells (cs TT) 26)).alloc (Obj.cells #[.int .u64 0, .int .u64 0, .int .u64 0, .int .u64 0, .int .u64 0, .int .u64 0, .int .u64 0, .int .u64 0, .int .u64 0, .int .u64 0, .int .u64 0, .int .u64 0, .int .u64 0, .int .u64 0, .int .u64 0, .int .u64 0, .int .u64 0, .int .u64 0, .int .u64 0, .int .u64 0, .int .u64 0, .int .u64 0, .int .u8 0, .int .u8 0, .int .u8 0, .int .u8 0, .int .u8 0, .int .u8 0, .int .u8 0, .int .u8 0, .int .u64 0, .int .u64 0, .int .u64 0, .int .u64 0, .int .u64 0, .int .u64 0, .int .u64 0, .int .u64 0] 26) = w6 from HW.out.symm]
    clear HW ga gb gc gd gs1 gs2 gs3 gs4 g0 g2 g3
    have HP := Lib.hid HG.out.drew
    refine wp_region_held_drew (S := Gs w [(w.heap.size, TT)]) (by kernel_rfl) HG.out.tail.drew (fun hHeld => ?_)
    refine wpAnyH_take (i := 0) (v := .agg (cs TT)) rfl (by kernel_rfl) (by kernel_rfl) (by kernel_rfl) (fun _ _ _ h => h) (Or.inl ⟨by rfl, fun w' hw' => run_load_row 26 _ rfl w.heap.size rfl 26 (cs TT) (0, 0) _ (hw'.row w.heap.size TT (by simp)) Tryd.underlying26 rfl (infoS _)⟩) hHeld ?_
    simp only [Act.put, List.setIfInBounds_toArray, List.set_cons_zero, List.set_cons_succ]
    refine wpAnyH_take (i := 1) (v := .pointer (some ⟨w.heap.size, 1, none⟩)) rfl (by kernel_rfl) (by kernel_rfl) (by kernel_rfl) (fun _ _ _ h => h) (Or.inl ⟨by rfl, fun w' hw' => by go_simp⟩) hHeld ?_
    simp only [Act.put, List.setIfInBounds_toArray, List.set_cons_zero, List.set_cons_succ]
    refine wpAnyH_take (i := 2) (v := .int .u64 (TT 1 : Nat)) rfl (by kernel_rfl) (by kernel_rfl) (by kernel_rfl) (fun _ _ _ h => h) (Or.inl ⟨by rfl, fun w' hw' => by have k9 := hw'.u w.heap.size TT (by simp) 1 (by unfold isU; decide); go_simp⟩) hHeld ?_
    simp only [Act.put, List.setIfInBounds_toArray, List.set_cons_zero, List.set_cons_succ]
    refine wpAnyH_take (i := 3) (v := .int .u64 (c : Nat)) rfl (by kernel_rfl) (by kernel_rfl) (by kernel_rfl) (fun _ _ _ h => h) (Or.inl ⟨by rfl, fun w' hw' => by go_simp⟩) hHeld ?_
    simp only [Act.put, List.setIfInBounds_toArray, List.set_cons_zero, List.set_cons_succ]
    clear hHeld
    generalize w6.drew = wy at HP ⊢
    clear HG
    refine wpAnyH_ready (rs := [4]) (by kernel_rfl) (by simp) ?_
    refine AllReadyH.cons rfl (fun K hK => ?_) (AllReadyH.nil)
    go_simp
    go_wp2_with (go_at_call 23; refine (PV.out _).mono ?_; rintro e wb ⟨rfl, h⟩; replace h := h.symm; subst h)
    refine on_to hK (fun w' => Gs w [(w.heap.size + 1, Z38), (w.heap.size, TT)] w') _ _ HP.out (fun w' h => h.tail) ?_
    intro wz1 hp
    clear hK
    replace hp := Lib.hid hp
    refine wpAnyH_ready (rs := [5]) (by kernel_rfl) (by simp) ?_
    refine AllReadyH.cons rfl (fun K hK => ?_) (AllReadyH.nil)
    rw [if_pos (by rfl)]
    refine wp_store_row 26 _ _ rfl (w.heap.size + 1) (cs TT) rfl rfl 26 (cs Z38) (hp.out.row (w.heap.size + 1) Z38 (by simp)) (infoS _) rfl (oneS _) ?_
    refine on_to hK (fun w' => Gs w [(w.heap.size + 1, TT), (w.heap.size, TT)] w') _ _ (gs_row hp.out (by simp)) (fun w' h => h.tail) ?_
    intro wz2 hp
    clear hK
    replace hp := Lib.hid hp
    refine wpAnyH_ready (rs := [6]) (by kernel_rfl) (by simp) ?_
    refine AllReadyH.cons rfl (fun K hK => ?_) (AllReadyH.nil)
    go_simp
    refine on_to hK (fun w' => Gs w [(w.heap.size + 1, TT), (w.heap.size, TT)] w') _ _ hp.out (fun w' h => h.tail) ?_
    intro wz3 hp
    clear hK
    replace hp := Lib.hid hp
    refine wpAnyH_ready (rs := [7]) (by kernel_rfl) (by simp) ?_
    refine AllReadyH.cons rfl (fun K hK => ?_) (AllReadyH.nil)
    go_simp
    refine on_to hK (fun w' => Gs w [(w.heap.size + 1, TT), (w.heap.size, TT)] w') _ _ hp.out (fun w' h => h.tail) ?_
    intro wz4 hp
    clear hK
    replace hp := Lib.hid hp
    refine wpAnyH_done (by decide +kernel) ?_ _
    go_wp2_with fail
    refine bodyPost_ret (results_row3 rfl _ _ (w.heap.size + 1) 26 (cs TT) (0, 0) _ rfl (hp.out.row (w.heap.size + 1) TT (by simp)) Tryd.underlying26 rfl (infoS _)) rfl ?_
    exact ⟨rfl, hp.out.1⟩
  · go_enter Tryd.func10, Tryd.ntmps10
    go_wp2_with fail
    refine (PT.out _).mono ?_; rintro e w1 ⟨rfl, h⟩; replace h := h.symm; subst h
    go_wp2_with fail
    refine (PI.out _).mono ?_; rintro e w1 ⟨rfl, h⟩; replace h := h.symm; subst h
    go_wp2_with fail
    refine (PD3.out (by trivial) _).mono ?_; rintro e w1 ⟨rfl, h⟩; replace h := h.symm; subst h
    go_wp2_with fail
    refine (Px1.out _).mono ?_; rintro e w1 ⟨rfl, h⟩; replace h := h.symm; subst h
    go_wp2_with fail
    refine (Px2.out _).mono ?_; rintro e w1 ⟨rfl, h⟩; replace h := h.symm; subst h
    go_wp2_with fail
    refine (PB.out _).mono ?_; rintro e w1 ⟨rfl, h⟩; replace h := h.symm; subst h
    go_wp2_with fail
    refine (Px3.out _).mono ?_; rintro e w1 ⟨rfl, h⟩; replace h := h.symm; subst h
    go_wp2_with fail
    refine (Px4.out _).mono ?_; rintro e w1 ⟨rfl, h⟩; replace h := h.symm; subst h
    go_wp2_with fail
    rw [show (w.alloc (Obj.cells (cs TT) 26)).alloc (Obj.cells #[.int .u64 0, .int .u64 0, .int .u64 0, .int .u64 0, .int .u64 0, .int .u64 0, .int .u64 0, .int .u64 0, .int .u64 0, .int .u64 0, .int .u64 0, .int .u64 0, .int .u64 0, .int .u64 0, .int .u64 0, .int .u64 0, .int .u64 0, .int .u64 0, .int .u64 0, .int .u64 0, .int .u64 0, .int .u64 0, .int .u8 0, .int .u8 0, .int .u8 0, .int .u8 0, .int .u8 0, .int .u8 0, .int .u8 0, .int .u8 0, .int .u64 0, .int .u64 0, .int .u64 0, .int .u64 0, .int .u64 0, .int .u64 0, .int .u64 0, .int .u64 0] 26) = w6 from HW.out.symm]
    clear HW ga gb gc gd gs1 gs2 gs3 gs4 g0 g2 g3
    have HP := Lib.hid HG.out.drew
    refine wp_region_held_drew (S := Gs w [(w.heap.size, TT)]) (by kernel_rfl) HG.out.tail.drew (fun hHeld => ?_)
    refine wpAnyH_take (i := 0) (v := .agg (cs TT)) rfl (by kernel_rfl) (by kernel_rfl) (by kernel_rfl) (fun _ _ _ h => h) (Or.inl ⟨by rfl, fun w' hw' => run_load_row 26 _ rfl w.heap.size rfl 26 (cs TT) (0, 0) _ (hw'.row w.heap.size TT (by simp)) Tryd.underlying26 rfl (infoS _)⟩) hHeld ?_
    simp only [Act.put, List.setIfInBounds_toArray, List.set_cons_zero, List.set_cons_succ]
    refine wpAnyH_take (i := 1) (v := .pointer (some ⟨w.heap.size, 1, none⟩)) rfl (by kernel_rfl) (by kernel_rfl) (by kernel_rfl) (fun _ _ _ h => h) (Or.inl ⟨by rfl, fun w' hw' => by go_simp⟩) hHeld ?_
    simp only [Act.put, List.setIfInBounds_toArray, List.set_cons_zero, List.set_cons_succ]
    refine wpAnyH_take (i := 2) (v := .int .u64 (TT 1 : Nat)) rfl (by kernel_rfl) (by kernel_rfl) (by kernel_rfl) (fun _ _ _ h => h) (Or.inl ⟨by rfl, fun w' hw' => by have k9 := hw'.u w.heap.size TT (by simp) 1 (by unfold isU; decide); go_simp⟩) hHeld ?_
    simp only [Act.put, List.setIfInBounds_toArray, List.set_cons_zero, List.set_cons_succ]
    refine wpAnyH_take (i := 3) (v := .int .u64 (c : Nat)) rfl (by kernel_rfl) (by kernel_rfl) (by kernel_rfl) (fun _ _ _ h => h) (Or.inl ⟨by rfl, fun w' hw' => by go_simp⟩) hHeld ?_
    simp only [Act.put, List.setIfInBounds_toArray, List.set_cons_zero, List.set_cons_succ]
    clear hHeld
    generalize w6.drew = wy at HP ⊢
    clear HG
    refine wpAnyH_ready (rs := [4]) (by kernel_rfl) (by simp) ?_
    refine AllReadyH.cons rfl (fun K hK => ?_) (AllReadyH.nil)
    go_simp
    go_wp2_with (go_at_call 23; refine (PV.out _).mono ?_; rintro e wb ⟨rfl, h⟩; replace h := h.symm; subst h)
    refine on_to hK (fun w' => Gs w [(w.heap.size + 1, Z38), (w.heap.size, TT)] w') _ _ HP.out (fun w' h => h.tail) ?_
    intro wz1 hp
    clear hK
    replace hp := Lib.hid hp
    refine wpAnyH_ready (rs := [5]) (by kernel_rfl) (by simp) ?_
    refine AllReadyH.cons rfl (fun K hK => ?_) (AllReadyH.nil)
    rw [if_pos (by rfl)]
    refine wp_store_row 26 _ _ rfl (w.heap.size + 1) (cs TT) rfl rfl 26 (cs Z38) (hp.out.row (w.heap.size + 1) Z38 (by simp)) (infoS _) rfl (oneS _) ?_
    refine on_to hK (fun w' => Gs w [(w.heap.size + 1, TT), (w.heap.size, TT)] w') _ _ (gs_row hp.out (by simp)) (fun w' h => h.tail) ?_
    intro wz2 hp
    clear hK
    replace hp := Lib.hid hp
    refine wpAnyH_ready (rs := [6]) (by kernel_rfl) (by simp) ?_
    refine AllReadyH.cons rfl (fun K hK => ?_) (AllReadyH.nil)
    go_simp
    refine on_to hK (fun w' => Gs w [(w.heap.size + 1, TT), (w.heap.size, TT)] w') _ _ hp.out (fun w' h => h.tail) ?_
    intro wz3 hp
    clear hK
    replace hp := Lib.hid hp
    refine wpAnyH_ready (rs := [7]) (by kernel_rfl) (by simp) ?_
    refine AllReadyH.cons rfl (fun K hK => ?_) (AllReadyH.nil)
    go_simp
    refine on_to hK (fun w' => Gs w [(w.heap.size + 1, TT), (w.heap.size, TT)] w') _ _ hp.out (fun w' h => h.tail) ?_
    intro wz4 hp
    clear hK
    replace hp := Lib.hid hp
    refine wpAnyH_done (by decide +kernel) ?_ _
    go_wp2_with fail
    refine bodyPost_ret (results_row3 rfl _ _ (w.heap.size + 1) 26 (cs TT) (0, 0) _ rfl (hp.out.row (w.heap.size + 1) TT (by simp)) Tryd.underlying26 rfl (infoS _)) rfl ?_
    exact ⟨rfl, hp.out.1⟩
set_option maxRecDepth 100000 in
set_option maxHeartbeats 1000000 in
theorem enterRM_1 (S : Nat → Nat) (m : Int) (pc c v : Nat) (hS : Hid (OkS S)) (hp : Hid (pc < 18446744073709551616)) (hc : Hid (c < 18446744073709551616)) (hv : Hid (v < 18446744073709551616)) (ht : tkI m = 1) (hd : delB S c = false) (w : World) :
    Calls Tryd.prog 10 #[.agg (cs S), .int .i64 m, .int .u64 pc, .int .u64 c, .int .u64 v] w (RetE (toM S 1 pc c v) 3 (vecN (S 1) c) w) := by
  have PT : Hid (∀ u, Calls Tryd.prog 20 #[.int .i64 m] u (RetIX 1 u)) := fun u => by have := mode_c m u; rw [ht] at this; exact this
  have PI : Hid (∀ u, Calls Tryd.prog 21 #[.int .u64 c, .int .i64 63] u (RetBX (c.testBit 63) u)) := fun u => bit_c c 63 hc (by decide) u
  have PV : Hid (∀ u, Calls Tryd.prog 23 #[.int .u64 (S 1 : Nat), .int .u64 c] u (RetUX (vecN (S 1) c) u)) := fun u => vecr_c (S 1) c (hS.out.u 1 (by decide)) hc u
  have f1 : bits .andNot .u64 (pc : Int) 1 = ((pc &&& 18446744073709551614 : Nat) : Int) := u_andNot pc 1 hp.out (by decide)
  obtain ⟨s, hs⟩ : ∃ s, S 0 = s := ⟨_, rfl⟩
  have ls : Hid (s < 18446744073709551616) := by show _ < _; rw [← hs]; exact hS.out.u 0 (by decide)
  obtain ⟨x1, hx1⟩ : ∃ y, putN s 2048 true = y := ⟨_, rfl⟩
  have lx1 : Hid (x1 < 18446744073709551616) := by show _ < _; rw [← hx1]; exact put_lt _ ls.out (by decide)
  have Px1 : Hid (∀ u, Calls Tryd.prog 22 #[.int .u64 s, .int .i64 11, .bool true] u (RetUX x1 u)) := fun u => by
    have := with_c s 11 ls (by decide) true u
    rw [show (2 : Nat) ^ 11 = 2048 from rfl, hx1] at this; exact this
  obtain ⟨x2, hx2⟩ : ∃ y, putN x1 4096 false = y := ⟨_, rfl⟩
  have lx2 : Hid (x2 < 18446744073709551616) := by show _ < _; rw [← hx2]; exact put_lt _ lx1.out (by decide)
  have Px2 : Hid (∀ u, Calls Tryd.prog 22 #[.int .u64 x1, .int .i64 12, .bool false] u (RetUX x2 u)) := fun u => by
    have := with_c x1 12 lx1 (by decide) false u
    rw [show (2 : Nat) ^ 12 = 4096 from rfl, hx2] at this; exact this
  obtain ⟨bo, hbo⟩ : ∃ y, s.testBit 3 = y := ⟨_, rfl⟩
  have eb : x2.testBit 3 = bo := by
    rw [← hbo, ← hx2, ← hx1, tb_put _ 4096 _ 3 (by decide) (by decide), tb_put _ 2048 _ 3 (by decide) (by decide)]
    generalize s.testBit 3 = q
    revert q; decide +kernel
  have PB : Hid (∀ u, Calls Tryd.prog 21 #[.int .u64 x2, .int .i64 3] u (RetBX bo u)) := fun u => by
    have := bit_c x2 3 lx2 (by decide) u
    rw [eb] at this; exact this
  obtain ⟨x3, hx3⟩ : ∃ y, putN x2 128 bo = y := ⟨_, rfl⟩
  have lx3 : Hid (x3 < 18446744073709551616) := by show _ < _; rw [← hx3]; exact put_lt _ lx2.out (by decide)
  have Px3 : Hid (∀ u, Calls Tryd.prog 22 #[.int .u64 x2, .int .i64 7, .bool bo] u (RetUX x3 u)) := fun u => by
    have := with_c x2 7 lx2 (by decide) bo u
    rw [show (2 : Nat) ^ 7 = 128 from rfl, hx3] at this; exact this
  obtain ⟨x4, hx4⟩ : ∃ y, putN x3 8 false = y := ⟨_, rfl⟩
  have lx4 : Hid (x4 < 18446744073709551616) := by show _ < _; rw [← hx4]; exact put_lt _ lx3.out (by decide)
  have Px4 : Hid (∀ u, Calls Tryd.prog 22 #[.int .u64 x3, .int .i64 3, .bool false] u (RetUX x4 u)) := fun u => by
    have := with_c x3 3 lx3 (by decide) false u
    rw [show (2 : Nat) ^ 3 = 8 from rfl, hx4] at this; exact this
  have f6 := and63n c hc.out
  have n6 : c % 64 < 64 := Nat.mod_lt _ (by decide)
  have PD2 : Hid (c.testBit 63 = false → ∀ u, Calls Tryd.prog 21 #[.int .u64 (S 2 : Nat), .int .i64 ((c % 64 : Nat) : Int)] u (RetBX false u)) := fun hb u => by
    have := bit_c (S 2) (c % 64) (hS.out.u 2 (by decide)) n6 u
    unfold delB at hd; rw [hb] at hd; simp only [cond_false] at hd; rw [hd] at this; exact this
  have PD3 : Hid (c.testBit 63 = true → ∀ u, Calls Tryd.prog 21 #[.int .u64 (S 3 : Nat), .int .i64 ((c % 64 : Nat) : Int)] u (RetBX false u)) := fun hb u => by
    have := bit_c (S 3) (c % 64) (hS.out.u 3 (by decide)) n6 u
    unfold delB at hd; rw [hb] at hd; simp only [cond_true] at hd; rw [hd] at this; exact this
  generalize c % 64 = q6 at f6 n6 PD2 PD3
  have w6' : wrap64 (q6 : Int) = (q6 : Int) := (by unfold wrap64; omega)
  obtain ⟨TT, hTT⟩ : ∃ TT, toM S 1 pc c v = TT := ⟨_, rfl⟩
  rw [hTT]
  unfold toM at hTT
  rw [hs, ← refM_1 s ls.out, hx1, hx2, hbo, hx3, hx4] at hTT
  generalize pc &&& 18446744073709551614 = p at f1 hTT
  have y2 : S 1 = setN (setN (setN (setN S 6 p) 7 c) 8 v) 0 x4 1 := rfl
  have ga : (cs S)[6]? = some (.int .u64 (S 6 : Nat)) := rfl
  have g0 : (cs S)[0]? = some (.int .u64 s) := by rw [← hs]; rfl
  have g2 : (cs S)[2]? = some (.int .u64 (S 2 : Nat)) := rfl
  have g3 : (cs S)[3]? = some (.int .u64 (S 3 : Nat)) := rfl
  have gs1 := cs_set S 6 p (by unfold isU; decide)
  obtain ⟨Sa, hSa⟩ : ∃ Sa, setN S 6 p = Sa := ⟨_, rfl⟩
  rw [hSa] at gs1 hTT y2
  have gb : (cs Sa)[7]? = some (.int .u64 (Sa 7 : Nat)) := rfl
  have gs2 := cs_set Sa 7 c (by unfold isU; decide)
  obtain ⟨Sb, hSb⟩ : ∃ Sb, setN Sa 7 c = Sb := ⟨_, rfl⟩
  rw [hSb] at gs2 hTT y2
  have gc : (cs Sb)[8]? = some (.int .u64 (Sb 8 : Nat)) := rfl
  have gs3 := cs_set Sb 8 v (by unfold isU; decide)
  obtain ⟨Sc, hSc⟩ : ∃ Sc, setN Sb 8 v = Sc := ⟨_, rfl⟩
  rw [hSc] at gs3 hTT y2
  have gd : (cs Sc)[0]? = some (.int .u64 (Sc 0 : Nat)) := rfl
  have gs4 := cs_set Sc 0 x4 (by unfold isU; decide)
  rw [hTT] at gs4 y2
  rw [y2] at PV ⊢
  obtain ⟨vn, hvn⟩ : ∃ vn, vecN (TT 1) c = vn := ⟨_, rfl⟩
  rw [hvn] at PV ⊢
  obtain ⟨w6, hW⟩ : ∃ W1, W1 = (w.alloc (Obj.cells (cs TT) 26)).alloc (Obj.cells (cs Z38) 26) := ⟨_, rfl⟩
  have HG : Hid (Gs w [(w.heap.size + 1, Z38), (w.heap.size, TT)] w6) := by
    obtain ⟨r1, r2⟩ := two_rows w TT Z38
    rw [← hW] at r1 r2
    have hz : w6.heap.size = w.heap.size + 2 := by rw [hW, sz_alloc, sz_alloc]
    refine ⟨by rw [hW]; exact (by repeat (first | (with_reducible first | exact Below.refl _ _ | assumption | exact Nat.le_refl _ | refine Below.drew ?_ | refine Below.alloc ?_ ?_ _ | refine Below.setCell ?_ ?_ _ | refine le_alloc ?_ | refine le_set ?_ | refine le_drew ?_ | refine below_step (by assumption) ?_ ?_ | refine le_below (by assumption) ?_) | (dsimp only; omega))), fun p hp => ?_⟩
    rcases List.mem_cons.1 hp with rfl | hp
    · exact ⟨Nat.le_succ _, by rw [hz]; exact Nat.lt_succ_self _, r2⟩
    · obtain rfl := List.mem_singleton.1 hp
      exact ⟨Nat.le_refl _, by rw [hz]; omega, r1⟩
  have HW := Lib.hid hW
  clear hW hTT hSa hSb hSc y2 hS hp hc hv ht hvn hs ls hx1 lx1 hx2 lx2 hx3 lx3 hx4 lx4 hbo eb hd n6
  generalize c.testBit 63 = A at PI PD2 PD3
  cases A
  · go_enter Tryd.func10, Tryd.ntmps10
    go_wp2_with fail
    refine (PT.out _).mono ?_; rintro e w1 ⟨rfl, h⟩; replace h := h.symm; subst h
    go_wp2_with fail
    refine (PI.out _).mono ?_; rintro e w1 ⟨rfl, h⟩; replace h := h.symm; subst h
    go_wp2_with fail
    refine (PD2.out (by trivial) _).mono ?_; rintro e w1 ⟨rfl, h⟩; replace h := h.symm; subst h
    go_wp2_with fail
    refine (Px1.out _).mono ?_; rintro e w1 ⟨rfl, h⟩; replace h := h.symm; subst h
    go_wp2_with fail
    refine (Px2.out _).mono ?_; rintro e w1 ⟨rfl, h⟩; replace h := h.symm; subst h
    go_wp2_with fail
    refine (PB.out _).mono ?_; rintro e w1 ⟨rfl, h⟩; replace h := h.symm; subst h
    go_wp2_with fail
    refine (Px3.out _).mono ?_; rintro e w1 ⟨rfl, h⟩; replace h := h.symm; subst h
    go_wp2_with fail
    refine (Px4.out _).mono ?_; rintro e w1 ⟨rfl, h⟩; replace h := h.symm; subst h
    go_wp2_with fail
    rw [show (w.alloc (Obj.cells (cs TT) 26)).alloc (Obj.cells #[.int .u64 0, .int .u64 0, .int .u64 0, .int .u64 0, .int .u64 0, .int .u64 0, .int .u64 0, .int .u64 0, .int .u64 0, .int .u64 0, .int .u64 0, .int .u64 0, .int .u64 0, .int .u64 0, .int .u64 0, .int .u64 0, .int .u64 0, .int .u64 0, .int .u64 0, .int .u64 0, .int .u64 0, .int .u64 0, .int .u8 0, .int .u8 0, .int .u8 0, .int .u8 0, .int .u8 0, .int .u8 0, .int .u8 0, .int .u8 0, .int .u64 0, .int .u64 0, .int .u64 0, .int .u64 0, .int .u64 0, .int .u64 0, .int .u64 0, .int .u64 0] 26) = w6 from HW.out.symm]
    clear HW ga gb gc gd gs1 gs2 gs3 gs4 g0 g2 g3
    have HP := Lib.hid HG.out.drew
    refine wp_region_held_drew (S := Gs w [(w.heap.size, TT)]) (by kernel_rfl) HG.out.tail.drew (fun hHeld => ?_)
    refine wpAnyH_take (i := 0) (v := .agg (cs TT)) rfl (by kernel_rfl) (by kernel_rfl) (by kernel_rfl) (fun _ _ _ h => h) (Or.inl ⟨by rfl, fun w' hw' => run_load_row 26 _ rfl w.heap.size rfl 26 (cs TT) (0, 0) _ (hw'.row w.heap.size TT (by simp)) Tryd.underlying26 rfl (infoS _)⟩) hHeld ?_
    simp only [Act.put, List.setIfInBounds_toArray, List.set_cons_zero, List.set_cons_succ]
    refine wpAnyH_take (i := 1) (v := .pointer (some ⟨w.heap.size, 1, none⟩)) rfl (by kernel_rfl) (by kernel_rfl) (by kernel_rfl) (fun _ _ _ h => h) (Or.inl ⟨by rfl, fun w' hw' => by go_simp⟩) hHeld ?_
    simp only [Act.put, List.setIfInBounds_toArray, List.set_cons_zero, List.set_cons_succ]
    refine wpAnyH_take (i := 2) (v := .int .u64 (TT 1 : Nat)) rfl (by kernel_rfl) (by kernel_rfl) (by kernel_rfl) (fun _ _ _ h => h) (Or.inl ⟨by rfl, fun w' hw' => by have k9 := hw'.u w.heap.size TT (by simp) 1 (by unfold isU; decide); go_simp⟩) hHeld ?_
    simp only [Act.put, List.setIfInBounds_toArray, List.set_cons_zero, List.set_cons_succ]
    refine wpAnyH_take (i := 3) (v := .int .u64 (c : Nat)) rfl (by kernel_rfl) (by kernel_rfl) (by kernel_rfl) (fun _ _ _ h => h) (Or.inl ⟨by rfl, fun w' hw' => by go_simp⟩) hHeld ?_
    simp only [Act.put, List.setIfInBounds_toArray, List.set_cons_zero, List.set_cons_succ]
    clear hHeld
    generalize w6.drew = wy at HP ⊢
    clear HG
    refine wpAnyH_ready (rs := [4]) (by kernel_rfl) (by simp) ?_
    refine AllReadyH.cons rfl (fun K hK => ?_) (AllReadyH.nil)
    go_simp
    go_wp2_with (go_at_call 23; refine (PV.out _).mono ?_; rintro e wb ⟨rfl, h⟩; replace h := h.symm; subst h)
    refine on_to hK (fun w' => Gs w [(w.heap.size + 1, Z38), (w.heap.size, TT)] w') _ _ HP.out (fun w' h => h.tail) ?_
    intro wz1 hp
    clear hK
    replace hp := Lib.hid hp
    refine wpAnyH_ready (rs := [5]) (by kernel_rfl) (by simp) ?_
    refine AllReadyH.cons rfl (fun K hK => ?_) (AllReadyH.nil)
    rw [if_pos (by rfl)]
    refine wp_store_row 26 _ _ rfl (w.heap.size + 1) (cs TT) rfl rfl 26 (cs Z38) (hp.out.row (w.heap.size + 1) Z38 (by simp)) (infoS _) rfl (oneS _) ?_
    refine on_to hK (fun w' => Gs w [(w.heap.size + 1, TT), (w.heap.size, TT)] w') _ _ (gs_row hp.out (by simp)) (fun w' h => h.tail) ?_
    intro wz2 hp
    clear hK
    replace hp := Lib.hid hp
    refine wpAnyH_ready (rs := [6]) (by kernel_rfl) (by simp) ?_
    refine AllReadyH.cons rfl (fun K hK => ?_) (AllReadyH.nil)
    go_simp
    refine on_to hK (fun w' => Gs w [(w.heap.size + 1, TT), (w.heap.size, TT)] w') _ _ hp.out (fun w' h => h.tail) ?_
    intro wz3 hp
    clear hK
    replace hp := Lib.hid hp
    refine wpAnyH_ready (rs := [7]) (by kernel_rfl) (by simp) ?_
    refine AllReadyH.cons rfl (fun K hK => ?_) (AllReadyH.nil)
    go_simp
    refine on_to hK (fun w' => Gs w [(w.heap.size + 1, TT), (w.heap.size, TT)] w') _ _ hp.out (fun w' h => h.tail) ?_
    intro wz4 hp
    clear hK
    replace hp := Lib.hid hp
    refine wpAnyH_done (by decide +kernel) ?_ _
    go_wp2_with fail
    refine bodyPost_ret (results_row3 rfl _ _ (w.heap.size + 1) 26 (cs TT) (0, 0) _ rfl (hp.out.row (w.heap.size + 1) TT (by simp)) Tryd.underlying26 rfl (infoS _)) rfl ?_
    exact ⟨rfl, hp.out.1⟩
  · go_enter Tryd.func10, Tryd.ntmps10
    go_wp2_with fail
    refine (PT.out _).mono ?_; rintro e w1 ⟨rfl, h⟩; replace h := h.symm; subst h
    go_wp2_with fail
    refine (PI.out _).mono ?_; rintro e w1 ⟨rfl, h⟩; replace h := h.symm; subst h
    go_wp2_with fail
    refine (PD3.out (by trivial) _).mono ?_; rintro e w1 ⟨rfl, h⟩; replace h := h.symm; subst h
    go_wp2_with fail
    refine (Px1.out _).mono ?_; rintro e w1 ⟨rfl, h⟩; replace h := h.symm; subst h
    go_wp2_with fail
    refine (Px2.out _).mono ?_; rintro e w1 ⟨rfl, h⟩; replace h := h.symm; subst h
    go_wp2_with fail
    refine (PB.out _).mono ?_; rintro e w1 ⟨rfl, h⟩; replace h := h.symm; subst h
    go_wp2_with fail
    refine (Px3.out _).mono ?_; rintro e w1 ⟨rfl, h⟩; replace h := h.symm; subst h
    go_wp2_with fail
    refine (Px4.out _).mono ?_; rintro e w1 ⟨rfl, h⟩; replace h := h.symm; subst h
    go_wp2_with fail
    rw [show (w.alloc (Obj.cells (cs TT) 26)).alloc (Obj.cells #[.int .u64 0, .int .u64 0, .int .u64 0, .int .u64 0, .int .u64 0, .int .u64 0, .int .u64 0, .int .u64 0, .int .u64 0, .int .u64 0, .int .u64 0, .int .u64 0, .int .u64 0, .int .u64 0, .int .u64 0, .int .u64 0, .int .u64 0, .int .u64 0, .int .u64 0, .int .u64 0, .int .u64 0, .int .u64 0, .int .u8 0, .int .u8 0, .int .u8 0, .int .u8 0, .int .u8 0, .int .u8 0, .int .u8 0, .int .u8 0, .int .u64 0, .int .u64 0, .int .u64 0, .int .u64 0, .int .u64 0, .int .u64 0, .int .u64 0, .int .u64 0] 26) = w6 from HW.out.symm]
    clear HW ga gb gc gd gs1 gs2 gs3 gs4 g0 g2 g3
    have HP := Lib.hid HG.out.drew
    refine wp_region_held_drew (S := Gs w [(w.heap.size, TT)]) (by kernel_rfl) HG.out.tail.drew (fun hHeld => ?_)
    refine wpAnyH_take (i := 0) (v := .agg (cs TT)) rfl (by kernel_rfl) (by kernel_rfl) (by kernel_rfl) (fun _ _ _ h => h) (Or.inl ⟨by rfl, fun w' hw' => run_load_row 26 _ rfl w.heap.size rfl 26 (cs TT) (0, 0) _ (hw'.row w.heap.size TT (by simp)) Tryd.underlying26 rfl (infoS _)⟩) hHeld ?_
    simp only [Act.put, List.setIfInBounds_toArray, List.set_cons_zero, List.set_cons_succ]
    refine wpAnyH_take (i := 1) (v := .pointer (some ⟨w.heap.size, 1, none⟩)) rfl (by kernel_rfl) (by kernel_rfl) (by kernel_rfl) (fun _ _ _ h => h) (Or.inl ⟨by rfl, fun w' hw' => by go_simp⟩) hHeld ?_
    simp only [Act.put, List.setIfInBounds_toArray, List.set_cons_zero, List.set_cons_succ]
    refine wpAnyH_take (i := 2) (v := .int .u64 (TT 1 : Nat)) rfl (by kernel_rfl) (by kernel_rfl) (by kernel_rfl) (fun _ _ _ h => h) (Or.inl ⟨by rfl, fun w' hw' => by have k9 := hw'.u w.heap.size TT (by simp) 1 (by unfold isU; decide); go_simp⟩) hHeld ?_
    simp only [Act.put, List.setIfInBounds_toArray, List.set_cons_zero, List.set_cons_succ]
    refine wpAnyH_take (i := 3) (v := .int .u64 (c : Nat)) rfl (by kernel_rfl) (by kernel_rfl) (by kernel_rfl) (fun _ _ _ h => h) (Or.inl ⟨by rfl, fun w' hw' => by go_simp⟩) hHeld ?_
    simp only [Act.put, List.setIfInBounds_toArray, List.set_cons_zero, List.set_cons_succ]
    clear hHeld
    generalize w6.drew = wy at HP ⊢
    clear HG
    refine wpAnyH_ready (rs := [4]) (by kernel_rfl) (by simp) ?_
    refine AllReadyH.cons rfl (fun K hK => ?_) (AllReadyH.nil)
    go_simp
    go_wp2_with (go_at_call 23; refine (PV.out _).mono ?_; rintro e wb ⟨rfl, h⟩; replace h := h.symm; subst h)
    refine on_to hK (fun w' => Gs w [(w.heap.size + 1, Z38), (w.heap.size, TT)] w') _ _ HP.out (fun w' h => h.tail) ?_
    intro wz1 hp
    clear hK
    replace hp := Lib.hid hp
    refine wpAnyH_ready (rs := [5]) (by kernel_rfl) (by simp) ?_
    refine AllReadyH.cons rfl (fun K hK => ?_) (AllReadyH.nil)
    rw [if_pos (by rfl)]
    refine wp_store_row 26 _ _ rfl (w.heap.size + 1) (cs TT) rfl rfl 26 (cs Z38) (hp.out.row (w.heap.size + 1) Z38 (by simp)) (infoS _) rfl (oneS _) ?_
    refine on_to hK (fun w' => Gs w [(w.heap.size + 1, TT), (w.heap.size, TT)] w') _ _ (gs_row hp.out (by simp)) (fun w' h => h.tail) ?_
    intro wz2 hp
    clear hK
    replace hp := Lib.hid hp
    refine wpAnyH_ready (rs := [6]) (by kernel_rfl) (by simp) ?_
    refine AllReadyH.cons rfl (fun K hK => ?_) (AllReadyH.nil)
    go_simp
    refine on_to hK (fun w' => Gs w [(w.heap.size + 1, TT), (w.heap.size, TT)] w') _ _ hp.out (fun w' h => h.tail) ?_
    intro wz3 hp
    clear hK
    replace hp := Lib.hid hp
    refine wpAnyH_ready (rs := [7]) (by kernel_rfl) (by simp) ?_
    refine AllReadyH.cons rfl (fun K hK => ?_) (AllReadyH.nil)
    go_simp
    refine on_to hK (fun w' => Gs w [(w.heap.size + 1, TT), (w.heap.size, TT)] w') _ _ hp.out (fun w' h => h.tail) ?_
    intro wz4 hp
    clear hK
    replace hp := Lib.hid hp
    refine wpAnyH_done (by decide +kernel) ?_ _
    go_wp2_with fail
    refine bodyPost_ret (results_row3 rfl _ _ (w.heap.size + 1) 26 (cs TT) (0, 0) _ rfl (hp.out.row (w.heap.size + 1) TT (by simp)) Tryd.underlying26 rfl (infoS _)) rfl ?_
    exact ⟨rfl, hp.out.1⟩
set_option maxRecDepth 100000 in
set_option maxHeartbeats 1000000 in
theorem enterRM_3 (S : Nat → Nat) (m : Int) (pc c v : Nat) (hS : Hid (OkS S)) (hp : Hid (pc < 18446744073709551616)) (hc : Hid (c < 18446744073709551616)) (hv : Hid (v < 18446744073709551616)) (ht : tkI m = 3) (w : World) :
    Calls Tryd.prog 10 #[.agg (cs S), .int .i64 m, .int .u64 pc, .int .u64 c, .int .u64 v] w (RetE (toM S 3 pc c v) 3 (vecN (S 1) c) w) := by
  have PT : Hid (∀ u, Calls Tryd.prog 20 #[.int .i64 m] u (RetIX 3 u)) := fun u => by have := mode_c m u; rw [ht] at this; exact this
  have PI : Hid (∀ u, Calls Tryd.prog 21 #[.int .u64 c, .int .i64 63] u (RetBX (c.testBit 63) u)) := fun u => bit_c c 63 hc (by decide) u
  have PV : Hid (∀ u, Calls Tryd.prog 23 #[.int .u64 (S 1 : Nat), .int .u64 c] u (RetUX (vecN (S 1) c) u)) := fun u => vecr_c (S 1) c (hS.out.u 1 (by decide)) hc u
  have f1 : bits .andNot .u64 (pc : Int) 1 = ((pc &&& 18446744073709551614 : Nat) : Int) := u_andNot pc 1 hp.out (by decide)
  obtain ⟨s, hs⟩ : ∃ s, S 0 = s := ⟨_, rfl⟩
  have ls : Hid (s < 18446744073709551616) := by show _ < _; rw [← hs]; exact hS.out.u 0 (by decide)
  obtain ⟨x1, hx1⟩ : ∃ y, putN s 2048 true = y := ⟨_, rfl⟩
  have lx1 : Hid (x1 < 18446744073709551616) := by show _ < _; rw [← hx1]; exact put_lt _ ls.out (by decide)
  have Px1 : Hid (∀ u, Calls Tryd.prog 22 #[.int .u64 s, .int .i64 11, .bool true] u (RetUX x1 u)) := fun u => by
    have := with_c s 11 ls (by decide) true u
    rw [show (2 : Nat) ^ 11 = 2048 from rfl, hx1] at this; exact this
  obtain ⟨x2, hx2⟩ : ∃ y, putN x1 4096 true = y := ⟨_, rfl⟩
  have lx2 : Hid (x2 < 18446744073709551616) := by show _ < _; rw [← hx2]; exact put_lt _ lx1.out (by decide)
  have Px2 : Hid (∀ u, Calls Tryd.prog 22 #[.int .u64 x1, .int .i64 12, .bool true] u (RetUX x2 u)) := fun u => by
    have := with_c x1 12 lx1 (by decide) true u
    rw [show (2 : Nat) ^ 12 = 4096 from rfl, hx2] at this; exact this
  obtain ⟨bo, hbo⟩ : ∃ y, s.testBit 3 = y := ⟨_, rfl⟩
  have eb : x2.testBit 3 = bo := by
    rw [← hbo, ← hx2, ← hx1, tb_put _ 4096 _ 3 (by decide) (by decide), tb_put _ 2048 _ 3 (by decide) (by decide)]
    generalize s.testBit 3 = q
    revert q; decide +kernel
  have PB : Hid (∀ u, Calls Tryd.prog 21 #[.int .u64 x2, .int .i64 3] u (RetBX bo u)) := fun u => by
    have := bit_c x2 3 lx2 (by decide) u
    rw [eb] at this; exact this
  obtain ⟨x3, hx3⟩ : ∃ y, putN x2 128 bo = y := ⟨_, rfl⟩
  have lx3 : Hid (x3 < 18446744073709551616) := by show _ < _; rw [← hx3]; exact put_lt _ lx2.out (by decide)
  have Px3 : Hid (∀ u, Calls Tryd.prog 22 #[.int .u64 x2, .int .i64 7, .bool bo] u (RetUX x3 u)) := fun u => by
    have := with_c x2 7 lx2 (by decide) bo u
    rw [show (2 : Nat) ^ 7 = 128 from rfl, hx3] at this; exact this
  obtain ⟨x4, hx4⟩ : ∃ y, putN x3 8 false = y := ⟨_, rfl⟩
  have lx4 : Hid (x4 < 18446744073709551616) := by show _ < _; rw [← hx4]; exact put_lt _ lx3.out (by decide)
  have Px4 : Hid (∀ u, Calls Tryd.prog 22 #[.int .u64 x3, .int .i64 3, .bool false] u (RetUX x4 u)) := fun u => by
    have := with_c x3 3 lx3 (by decide) false u
    rw [show (2 : Nat) ^ 3 = 8 from rfl, hx4] at this; exact this
  obtain ⟨TT, hTT⟩ : ∃ TT, toM S 3 pc c v = TT := ⟨_, rfl⟩
  rw [hTT]
  unfold toM at hTT
  rw [hs, ← refM_3 s ls.out, hx1, hx2, hbo, hx3, hx4] at hTT
  generalize pc &&& 18446744073709551614 = p at f1 hTT
  have y2 : S 1 = setN (setN (setN (setN S 6 p) 7 c) 8 v) 0 x4 1 := rfl
  have ga : (cs S)[6]? = some (.int .u64 (S 6 : Nat)) := rfl
  have g0 : (cs S)[0]? = some (.int .u64 s) := by rw [← hs]; rfl
  have g2 : (cs S)[2]? = some (.int .u64 (S 2 : Nat)) := rfl
  have g3 : (cs S)[3]? = some (.int .u64 (S 3 : Nat)) := rfl
  have gs1 := cs_set S 6 p (by unfold isU; decide)
  obtain ⟨Sa, hSa⟩ : ∃ Sa, setN S 6 p = Sa := ⟨_, rfl⟩
  rw [hSa] at gs1 hTT y2
  have gb : (cs Sa)[7]? = some (.int .u64 (Sa 7 : Nat)) := rfl
  have gs2 := cs_set Sa 7 c (by unfold isU; decide)
  obtain ⟨Sb, hSb⟩ : ∃ Sb, setN Sa 7 c = Sb := ⟨_, rfl⟩
  rw [hSb] at gs2 hTT y2
  have gc : (cs Sb)[8]? = some (.int .u64 (Sb 8 : Nat)) := rfl
  have gs3 := cs_set Sb 8 v (by unfold isU; decide)
  obtain ⟨Sc, hSc⟩ : ∃ Sc, setN Sb 8 v = Sc := ⟨_, rfl⟩
  rw [hSc] at gs3 hTT y2
  have gd : (cs Sc)[0]? = some (.int .u64 (Sc 0 : Nat)) := rfl
  have gs4 := cs_set Sc 0 x4 (by unfold isU; decide)
  rw [hTT] at gs4 y2
  rw [y2] at PV ⊢
  obtain ⟨vn, hvn⟩ : ∃ vn, vecN (TT 1) c = vn := ⟨_, rfl⟩
  rw [hvn] at PV ⊢
  obtain ⟨w6, hW⟩ : ∃ W1, W1 = (w.alloc (Obj.cells (cs TT) 26)).alloc (Obj.cells (cs Z38) 26) := ⟨_, rfl⟩
  have HG : Hid (Gs w [(w.heap.size + 1, Z38), (w.heap.size, TT)] w6) := by
    obtain ⟨r1, r2⟩ := two_rows w TT Z38
    rw [← hW] at r1 r2
    have hz : w6.heap.size = w.heap.size + 2 := by rw [hW, sz_alloc, sz_alloc]
    refine ⟨by rw [hW]; exact (by repeat (first | (with_reducible first | exact Below.refl _ _ | assumption | exact Nat.le_refl _ | refine Below.drew ?_ | refine Below.alloc ?_ ?_ _ | refine Below.setCell ?_ ?_ _ | refine le_alloc ?_ | refine le_set ?_ | refine le_drew ?_ | refine below_step (by assumption) ?_ ?_ | refine le_below (by assumption) ?_) | (dsimp only; omega))), fun p hp => ?_⟩
    rcases List.mem_cons.1 hp with rfl | hp
    · exact ⟨Nat.le_succ _, by rw [hz]; exact Nat.lt_succ_self _, r2⟩
    · obtain rfl := List.mem_singleton.1 hp
      exact ⟨Nat.le_refl _, by rw [hz]; omega, r1⟩
  have HW := Lib.hid hW
  clear hW hTT hSa hSb hSc y2 hS hp hc hv ht hvn hs ls hx1 lx1 hx2 lx2 hx3 lx3 hx4 lx4 hbo eb
  generalize c.testBit 63 = A at PI
  cases A
  · go_enter Tryd.func10, Tryd.ntmps10
    go_wp2_with fail
    refine (PT.out _).mono ?_; rintro e w1 ⟨rfl, h⟩; replace h := h.symm; subst h
    go_wp2_with fail
    refine (PI.out _).mono ?_; rintro e w1 ⟨rfl, h⟩; replace h := h.symm; subst h
    go_wp2_with fail
    refine (Px1.out _).mono ?_; rintro e w1 ⟨rfl, h⟩; replace h := h.symm; subst h
    go_wp2_with fail
    refine (Px2.out _).mono ?_; rintro e w1 ⟨rfl, h⟩; replace h := h.symm; subst h
    go_wp2_with fail
    refine (PB.out _).mono ?_; rintro e w1 ⟨rfl, h⟩; replace h := h.symm; subst h
    go_wp2_with fail
    refine (Px3.out _).mono ?_; rintro e w1 ⟨rfl, h⟩; replace h := h.symm; subst h
    go_wp2_with fail
    refine (Px4.out _).mono ?_; rintro e w1 ⟨rfl, h⟩; replace h := h.symm; subst h
    go_wp2_with fail
    rw [show (w.alloc (Obj.cells (cs TT) 26)).alloc (Obj.cells #[.int .u64 0, .int .u64 0, .int .u64 0, .int .u64 0, .int .u64 0, .int .u64 0, .int .u64 0, .int .u64 0, .int .u64 0, .int .u64 0, .int .u64 0, .int .u64 0, .int .u64 0, .int .u64 0, .int .u64 0, .int .u64 0, .int .u64 0, .int .u64 0, .int .u64 0, .int .u64 0, .int .u64 0, .int .u64 0, .int .u8 0, .int .u8 0, .int .u8 0, .int .u8 0, .int .u8 0, .int .u8 0, .int .u8 0, .int .u8 0, .int .u64 0, .int .u64 0, .int .u64 0, .int .u64 0, .int .u64 0, .int .u64 0, .int .u64 0, .int .u64 0] 26) = w6 from HW.out.symm]
    clear HW ga gb gc gd gs1 gs2 gs3 gs4 g0 g2 g3
    have HP := Lib.hid HG.out.drew
    refine wp_region_held_drew (S := Gs w [(w.heap.size, TT)]) (by kernel_rfl) HG.out.tail.drew (fun hHeld => ?_)
    refine wpAnyH_take (i := 0) (v := .agg (cs TT)) rfl (by kernel_rfl) (by kernel_rfl) (by kernel_rfl) (fun _ _ _ h => h) (Or.inl ⟨by rfl, fun w' hw' => run_load_row 26 _ rfl w.heap.size rfl 26 (cs TT) (0, 0) _ (hw'.row w.heap.size TT (by simp)) Tryd.underlying26 rfl (infoS _)⟩) hHeld ?_
    simp only [Act.put, List.setIfInBounds_toArray, List.set_cons_zero, List.set_cons_succ]
    refine wpAnyH_take (i := 1) (v := .pointer (some ⟨w.heap.size, 1, none⟩)) rfl (by kernel_rfl) (by kernel_rfl) (by kernel_rfl) (fun _ _ _ h => h) (Or.inl ⟨by rfl, fun w' hw' => by go_simp⟩) hHeld ?_
    simp only [Act.put, List.setIfInBounds_toArray, List.set_cons_zero, List.set_cons_succ]
    refine wpAnyH_take (i := 2) (v := .int .u64 (TT 1 : Nat)) rfl (by kernel_rfl) (by kernel_rfl) (by kernel_rfl) (fun _ _ _ h => h) (Or.inl ⟨by rfl, fun w' hw' => by have k9 := hw'.u w.heap.size TT (by simp) 1 (by unfold isU; decide); go_simp⟩) hHeld ?_
    simp only [Act.put, List.setIfInBounds_toArray, List.set_cons_zero, List.set_cons_succ]
    refine wpAnyH_take (i := 3) (v := .int .u64 (c : Nat)) rfl (by kernel_rfl) (by kernel_rfl) (by kernel_rfl) (fun _ _ _ h => h) (Or.inl ⟨by rfl, fun w' hw' => by go_simp⟩) hHeld ?_
    simp only [Act.put, List.setIfInBounds_toArray, List.set_cons_zero, List.set_cons_succ]
    clear hHeld
    generalize w6.drew = wy at HP ⊢
    clear HG
    refine wpAnyH_ready (rs := [4]) (by kernel_rfl) (by simp) ?_
    refine AllReadyH.cons rfl (fun K hK => ?_) (AllReadyH.nil)
    go_simp
    go_wp2_with (go_at_call 23; refine (PV.out _).mono ?_; rintro e wb ⟨rfl, h⟩; replace h := h.symm; subst h)
    refine on_to hK (fun w' => Gs w [(w.heap.size + 1, Z38), (w.heap.size, TT)] w') _ _ HP.out (fun w' h => h.tail) ?_
    intro wz1 hp
    clear hK
    replace hp := Lib.hid hp
    refine wpAnyH_ready (rs := [5]) (by kernel_rfl) (by simp) ?_
    refine AllReadyH.cons rfl (fun K hK => ?_) (AllReadyH.nil)
    rw [if_pos (by rfl)]
    refine wp_store_row 26 _ _ rfl (w.heap.size + 1) (cs TT) rfl rfl 26 (cs Z38) (hp.out.row (w.heap.size + 1) Z38 (by simp)) (infoS _) rfl (oneS _) ?_
    refine on_to hK (fun w' => Gs w [(w.heap.size + 1, TT), (w.heap.size, TT)] w') _ _ (gs_row hp.out (by simp)) (fun w' h => h.tail) ?_
    intro wz2 hp
    clear hK
    replace hp := Lib.hid hp
    refine wpAnyH_ready (rs := [6]) (by kernel_rfl) (by simp) ?_
    refine AllReadyH.cons rfl (fun K hK => ?_) (AllReadyH.nil)
    go_simp
    refine on_to hK (fun w' => Gs w [(w.heap.size + 1, TT), (w.heap.size, TT)] w') _ _ hp.out (fun w' h => h.tail) ?_
    intro wz3 hp
    clear hK
    replace hp := Lib.hid hp
    refine wpAnyH_ready (rs := [7]) (by kernel_rfl) (by simp) ?_
    refine AllReadyH.cons rfl (fun K hK => ?_) (AllReadyH.nil)
    go_simp
    refine on_to hK (fun w' => Gs w [(w.heap.size + 1, TT), (w.heap.size, TT)] w') _ _ hp.out (fun w' h => h.tail) ?_
    intro wz4 hp
    clear hK
    replace hp := Lib.hid hp
    refine wpAnyH_done (by decide +kernel) ?_ _
    go_wp2_with fail
    refine bodyPost_ret (results_row3 rfl _ _ (w.heap.size + 1) 26 (cs TT) (0, 0) _ rfl (hp.out.row (w.heap.size + 1) TT (by simp)) Tryd.underlying26 rfl (infoS _)) rfl ?_
    exact ⟨rfl, hp.out.1⟩
  · go_enter Tryd.func10, Tryd.ntmps10
    go_wp2_with fail
    refine (PT.out _).mono ?_; rintro e w1 ⟨rfl, h⟩; replace h := h.symm; subst h
    go_wp2_with fail
    refine (PI.out _).mono ?_; rintro e w1 ⟨rfl, h⟩; replace h := h.symm; subst h
    go_wp2_with fail
    refine (Px1.out _).mono ?_; rintro e w1 ⟨rfl, h⟩; replace h := h.symm; subst h
    go_wp2_with fail
    refine (Px2.out _).mono ?_; rintro e w1 ⟨rfl, h⟩; replace h := h.symm; subst h
    go_wp2_with fail
    refine (PB.out _).mono ?_; rintro e w1 ⟨rfl, h⟩; replace h := h.symm; subst h
    go_wp2_with fail
    refine (Px3.out _).mono ?_; rintro e w1 ⟨rfl, h⟩; replace h := h.symm; subst h
    go_wp2_with fail
    refine (Px4.out _).mono ?_; rintro e w1 ⟨rfl, h⟩; replace h := h.symm; subst h
    go_wp2_with fail
    rw [show (w.alloc (Obj.cells (cs TT) 26)).alloc (Obj.cells #[.int .u64 0, .int .u64 0, .int .u64 0, .int .u64 0, .int .u64 0, .int .u64 0, .int .u64 0, .int .u64 0, .int .u64 0, .int .u64 0, .int .u64 0, .int .u64 0, .int .u64 0, .int .u64 0, .int .u64 0, .int .u64 0, .int .u64 0, .int .u64 0, .int .u64 0, .int .u64 0, .int .u64 0, .int .u64 0, .int .u8 0, .int .u8 0, .int .u8 0, .int .u8 0, .int .u8 0, .int .u8 0, .int .u8 0, .int .u8 0, .int .u64 0, .int .u64 0, .int .u64 0, .int .u64 0, .int .u64 0, .int .u64 0, .int .u64 0, .int .u64 0] 26) = w6 from HW.out.symm]
    clear HW ga gb gc gd gs1 gs2 gs3 gs4 g0 g2 g3
    have HP := Lib.hid HG.out.drew
    refine wp_region_held_drew (S := Gs w [(w.heap.size, TT)]) (by kernel_rfl) HG.out.tail.drew (fun hHeld => ?_)
    refine wpAnyH_take (i := 0) (v := .agg (cs TT)) rfl (by kernel_rfl) (by kernel_rfl) (by kernel_rfl) (fun _ _ _ h => h) (Or.inl ⟨by rfl, fun w' hw' => run_load_row 26 _ rfl w.heap.size rfl 26 (cs TT) (0, 0) _ (hw'.row w.heap.size TT (by simp)) Tryd.underlying26 rfl (infoS _)⟩) hHeld ?_
    simp only [Act.put, List.setIfInBounds_toArray, List.set_cons_zero, List.set_cons_succ]
    refine wpAnyH_take (i := 1) (v := .pointer (some ⟨w.heap.size, 1, none⟩)) rfl (by kernel_rfl) (by kernel_rfl) (by kernel_rfl) (fun _ _ _ h => h) (Or.inl ⟨by rfl, fun w' hw' => by go_simp⟩) hHeld ?_
    simp only [Act.put, List.setIfInBounds_toArray, List.set_cons_zero, List.set_cons_succ]
    refine wpAnyH_take (i := 2) (v := .int .u64 (TT 1 : Nat)) rfl (by kernel_rfl) (by kernel_rfl) (by kernel_rfl) (fun _ _ _ h => h) (Or.inl ⟨by rfl, fun w' hw' => by have k9 := hw'.u w.heap.size TT (by simp) 1 (by unfold isU; decide); go_simp⟩) hHeld ?_
    simp only [Act.put, List.setIfInBounds_toArray, List.set_cons_zero, List.set_cons_succ]
    refine wpAnyH_take (i := 3) (v := .int .u64 (c : Nat)) rfl (by kernel_rfl) (by kernel_rfl) (by kernel_rfl) (fun _ _ _ h => h) (Or.inl ⟨by rfl, fun w' hw' => by go_simp⟩) hHeld ?_
    simp only [Act.put, List.setIfInBounds_toArray, List.set_cons_zero, List.set_cons_succ]
    clear hHeld
    generalize w6.drew = wy at HP ⊢
    clear HG
    refine wpAnyH_ready (rs := [4]) (by kernel_rfl) (by simp) ?_
    refine AllReadyH.cons rfl (fun K hK => ?_) (AllReadyH.nil)
    go_simp
    go_wp2_with (go_at_call 23; refine (PV.out _).mono ?_; rintro e wb ⟨rfl, h⟩; replace h := h.symm; subst h)
    refine on_to hK (fun w' => Gs w [(w.heap.size + 1, Z38), (w.heap.size, TT)] w') _ _ HP.out (fun w' h => h.tail) ?_
    intro wz1 hp
    clear hK
    replace hp := Lib.hid hp
    refine wpAnyH_ready (rs := [5]) (by kernel_rfl) (by simp) ?_
    refine AllReadyH.cons rfl (fun K hK => ?_) (AllReadyH.nil)
    rw [if_pos (by rfl)]
    refine wp_store_row 26 _ _ rfl (w.heap.size + 1) (cs TT) rfl rfl 26 (cs Z38) (hp.out.row (w.heap.size + 1) Z38 (by simp)) (infoS _) rfl (oneS _) ?_
    refine on_to hK (fun w' => Gs w [(w.heap.size + 1, TT), (w.heap.size, TT)] w') _ _ (gs_row hp.out (by simp)) (fun w' h => h.tail) ?_
    intro wz2 hp
    clear hK
    replace hp := Lib.hid hp
    refine wpAnyH_ready (rs := [6]) (by kernel_rfl) (by simp) ?_
    refine AllReadyH.cons rfl (fun K hK => ?_) (AllReadyH.nil)
    go_simp
    refine on_to hK (fun w' => Gs w [(w.heap.size + 1, TT), (w.heap.size, TT)] w') _ _ hp.out (fun w' h => h.tail) ?_
    intro wz3 hp
    clear hK
    replace hp := Lib.hid hp
    refine wpAnyH_ready (rs := [7]) (by kernel_rfl) (by simp) ?_
    refine AllReadyH.cons rfl (fun K hK => ?_) (AllReadyH.nil)
    go_simp
    refine on_to hK (fun w' => Gs w [(w.heap.size + 1, TT), (w.heap.size, TT)] w') _ _ hp.out (fun w' h => h.tail) ?_
    intro wz4 hp
    clear hK
    replace hp := Lib.hid hp
    refine wpAnyH_done (by decide +kernel) ?_ _
    go_wp2_with fail
    refine bodyPost_ret (results_row3 rfl _ _ (w.heap.size + 1) 26 (cs TT) (0, 0) _ rfl (hp.out.row (w.heap.size + 1) TT (by simp)) Tryd.underlying26 rfl (infoS _)) rfl ?_
    exact ⟨rfl, hp.out.1⟩
end Go.Proofs.YteeifdmnagbjeaaDoor
