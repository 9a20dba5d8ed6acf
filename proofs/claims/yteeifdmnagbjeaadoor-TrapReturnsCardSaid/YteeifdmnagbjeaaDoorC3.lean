/- The walks of TrapKeeps. -/
import Derived.Test.YteeifdmnagbjeaaDoorC1
import Derived.Deep.RegionHeld
namespace Go.Proofs.YteeifdmnagbjeaaDoor
open Go.ChangeShapes Go.WideShapes Go.ChangeAt Go.RowKit Go.Sort Y
set_option linter.unusedVariables false
set_option linter.unusedSimpArgs false

theorem store_rowP {P : Program} {ops : Array Oper} {rest : List Oper} {o : Oper} {a : Act} {w : World} {Q : Exit → Act → World → Prop} (p : World → Prop) (hgd : o.guard = none) (ty : TypeId) (x y : Operand) (ho : o.op = .store ty x y)
    (g : Nat) (cells : Array Value) (hx : a.eval x = .pointer (some ⟨g, 0, none⟩)) (hy : a.eval y = .agg cells)
    (t : TypeId) (old : Array Value) (hg : w.heap[g]? = some (.cells old t (0, 0))) (hi : (P.info? ty).map (·.size) = some cells.size)
    (hold : old.size = cells.size) (h1 : cells.all (·.oneCell') = true) (hp : p (w.setRow g cells))
    (h : ∀ w', p w' → wpList P ops Q rest (a.put o.dst undef) w') : wpList P ops Q (o :: rest) a w := wpList_store_row hgd ty x y ho g cells hx hy t old hg hi hold h1 (h _ hp)
theorem eq_csG {ops : Array Oper} {rest : List Oper} {o : Oper} {a : Act} {w : World} {Q : Exit → Act → World → Prop} (hw : Region.wanted o (yielded ops a.tmps) = true) (x y : Operand) (t : TypeId) (ho : o.op = .binOp .eql 26 x y t) (S : Nat → Nat)
    (hx : a.eval x = .agg (cs S)) (hy : a.eval y = .agg (cs S)) (h : wpList Tryd.prog ops Q rest (a.put o.dst (.bool true)) w) : wpList Tryd.prog ops Q (o :: rest) a w :=
  wpList_step fun K hK => by
    rw [if_pos hw]
    have h2 : (execOp a.eval o).run Tryd.prog w = .ok (.value (.bool true)) w := by
      unfold execOp
      simp only [ho, hx, hy]
      rw [Sem.run_bind, binOp_eq_cs w x y S]; rfl
    unfold Oper.wp
    rw [h2]
    exact hK _ _ h
theorem gs_lt {w : World} {L : List (Nat × (Nat → Nat))} {w1 : World} (h : Gs w L w1) : ∀ p ∈ L, p.1 < w1.heap.size := fun p hp => (h.2 p hp).2.1
theorem gs_new {w : World} {L : List (Nat × (Nat → Nat))} {w1 : World} (h : Gs w L w1) (T : Nat → Nat) : Gs w ((w1.heap.size, T) :: L) ((w1.alloc (Obj.cells (cs Z38) 26)).setRow w1.heap.size (cs T)) :=
  gs_row h.alloc (fun p hp => Nat.ne_of_lt (gs_lt h p hp))
theorem eM_own (s m : Nat) (hs : s < 18446744073709551616) (hm : m = 0 ∨ m = 1 ∨ m = 3) : eM s m &&& (18446744073709551615 - 6280) = s &&& (18446744073709551615 - 6280) := by
  refine e64 (and_lt _ _ (eM_lt s m hs hm)) (and_lt _ _ hs) (fun i hi => ?_)
  rw [Nat.testBit_and, Nat.testBit_and, eM_bit s m i hi]
  obtain ⟨j, rfl⟩ : ∃ j : Fin 64, j.val = i := ⟨⟨i, hi⟩, rfl⟩
  generalize s.testBit j.val = a
  generalize s.testBit 3 = b
  clear hi hs
  rcases hm with rfl | rfl | rfl <;> (revert j a b; decide +kernel)
theorem eS_own (s m : Nat) (hs : s < 18446744073709551616) (hm : m = 0 ∨ m = 1) : eS s m &&& (18446744073709551615 - 290) = s &&& (18446744073709551615 - 290) := by
  refine e64 (and_lt _ _ (eS_lt s m hs hm)) (and_lt _ _ hs) (fun i hi => ?_)
  rw [Nat.testBit_and, Nat.testBit_and, eS_bit s m i hi]
  obtain ⟨j, rfl⟩ : ∃ j : Fin 64, j.val = i := ⟨⟨i, hi⟩, rfl⟩
  generalize s.testBit j.val = a
  generalize s.testBit 1 = b
  clear hi hs
  rcases hm with rfl | rfl <;> (revert j a b; decide +kernel)
/-- Whatever the kind: Return turns Mstatus alone. -/
theorem ret_any (S : Nat → Nat) (k : Int) (hS : Hid (OkS S)) : ∃ (T : Nat → Nat) (t : Int) (n : Nat), Hid (∀ u, Calls Tryd.prog 11 #[.agg (cs S), .int .i64 k] u (RetE T t n u)) ∧ cs (setN T 0 (S 0)) = cs S := by
  by_cases h1 : k = 49
  · subst h1
    have e : ∀ x, cs (setN (setN S 0 x) 0 (S 0)) = cs S := fun x => cs_congr (fun j _ => by
      unfold setN
      by_cases hj : j = 0
      · subst hj; rfl
      · rw [show (j == 0) = false by simpa using hj]; rfl)
    rcases tk_cases ((S 0 / 2048 % 4 : Nat) : Int) with h | h | h
    · exact ⟨_, _, _, fun u => retM_0 S hS h u, e _⟩
    · exact ⟨_, _, _, fun u => retM_1 S hS h u, e _⟩
    · exact ⟨_, _, _, fun u => retM_3 S hS h u, e _⟩
  · by_cases h2 : k = 50
    · subst h2
      have e : ∀ x, cs (setN (setN S 0 x) 0 (S 0)) = cs S := fun x => cs_congr (fun j _ => by
        unfold setN
        by_cases hj : j = 0
        · subst hj; rfl
        · rw [show (j == 0) = false by simpa using hj]; rfl)
      rcases sp_cases (S 0) with h | h
      · exact ⟨_, _, _, fun u => retS_0 S hS h u, e _⟩
      · exact ⟨_, _, _, fun u => retS_1 S hS h u, e _⟩
    · exact ⟨S, 3, 0, fun u => retN S k h1 h2 u, cs_congr (fun j _ => by
        unfold setN
        by_cases hj : j = 0
        · subst hj; rfl
        · rw [show (j == 0) = false by simpa using hj]; rfl)⟩
set_option maxRecDepth 100000 in
set_option maxHeartbeats 2000000 in
theorem keepsS (S D : Nat → Nat) (m kind : Int) (pc c v at0 : Nat) (hS : Hid (OkS S)) (hD : Hid (OkS D)) (hown : D 0 &&& (18446744073709551615 - 290) = S 0 &&& (18446744073709551615 - 290))
    (hall : cs (setN (setN (setN (setN D 15 (S 15)) 16 (S 16)) 17 (S 17)) 0 (S 0)) = cs S) (HE : Hid (∀ u, Calls Tryd.prog 9 #[.agg (cs S), .int .i64 m, .int .u64 pc, .int .u64 c, .int .u64 v] u (RetE D 1 at0 u))) (w : World) (hG : Hid (G w)) :
    Calls Tryd.prog 7 #[.agg (cs S), .int .i64 m, .int .i64 kind, .int .u64 pc, .int .u64 c, .int .u64 v] w (RetB true w) := by
  obtain ⟨T, t2, n2, HR, hF⟩ := ret_any S kind hS
  have HF := Lib.hid hF
  have N1 : bits .andNot .u64 ((D 0 : Nat) : Int) 290 = ((S 0 &&& (18446744073709551615 - 290) : Nat) : Int) := (u_andNot (D 0) 290 (hD.out.u 0 (by decide)) (by decide)).trans (congrArg Nat.cast hown)
  have N2 : bits .andNot .u64 ((S 0 : Nat) : Int) 290 = ((S 0 &&& (18446744073709551615 - 290) : Nat) : Int) := u_andNot (S 0) 290 (hS.out.u 0 (by decide)) (by decide)
  generalize S 0 &&& (18446744073709551615 - 290) = y at N1 N2
  have HN : Hid (bits .andNot .u64 ((D 0 : Nat) : Int) 290 = (y : Int) ∧ bits .andNot .u64 ((S 0 : Nat) : Int) 290 = (y : Int)) := ⟨N1, N2⟩
  have HALL := Lib.hid hall
  clear hF hown hall hD N1 N2 hS
  go_enter Tryd.func7, Tryd.ntmps7
  go_wp2_with fail
  refine (awake_c _ (g_alloc hG.out _)).mono ?_; rintro e w1 ⟨rfl, hb⟩
  have HG : Hid (Gs w [(w.heap.size, S)] w1) := ⟨below_step hb ((Below.refl w.heap.size w).alloc (Nat.le_refl _) _) (by rw [sz_alloc]; omega), fun p hp => by
    obtain rfl := List.mem_singleton.1 hp
    exact ⟨Nat.le_refl _, Nat.lt_of_lt_of_le (by rw [sz_alloc]; exact Nat.lt_succ_self _) hb.size, (row_new w (cs S) 26).below hb (by rw [sz_alloc]; exact Nat.lt_succ_self _)⟩⟩
  clear hb hG
  obtain ⟨cb, hcb⟩ : ∃ cb, cb = w.heap.size := ⟨_, rfl⟩
  rw [← hcb] at HG
  go_wp2_with (refine wpList_load_row rfl 26 _ rfl w.heap.size rfl 26 (cs S) (0, 0) _ (by rw [← hcb]; exact HG.out.row cb S (by simp)) Tryd.underlying26 rfl (infoS _) ?_)
  refine (HE.out _).mono ?_; rintro e w2 ⟨rfl, hb⟩
  replace HG := Lib.hid (HG.out.below hb)
  clear hb HE
  rw [← hcb]
  clear hcb
  go_upto_region 4 with (refine store_rowP (Gs w [(w2.heap.size, D), (cb, S)]) rfl 26 _ _ rfl w2.heap.size (cs D) rfl rfl 26 (cs Z38) (row_new _ _ _) (infoS _) rfl (oneS _) (gs_new HG.out D) ?_; rintro wd HD; replace HD := Lib.hid HD)
  generalize w2.heap.size = db at HD ⊢
  clear HG w2
  go_upto_region 8 with (first | (refine store_rowP (Gs w [(wd.heap.size, D), (db, D), (cb, S)]) rfl 26 _ _ rfl wd.heap.size (cs D) rfl rfl 26 (cs Z38) (row_new _ _ _) (infoS _) rfl (oneS _) (gs_new HD.out D) ?_; rintro we HX; replace HX := Lib.hid HX) | (refine wpList_load_row rfl 26 _ rfl db rfl 26 (cs D) (0, 0) _ (HD.out.row db D (by simp)) Tryd.underlying26 rfl (infoS _) ?_))
  have HL := Lib.hid (gs_lt HD.out)
  have HC : Hid (cb < wd.heap.size) := HL.out (cb, S) (by simp)
  clear HD HL
  generalize wd.heap.size = eb at HX HC ⊢
  clear wd
  replace HX : Hid (Gs w [(eb, D), (cb, S)] we) := gs_perm HX.out (by simp)
  have HP := Lib.hid HX.out.drew
  refine wp_region_held_drew (S := Gs w [(cb, S)]) (by kernel_rfl) HX.out.tail.drew (fun hHeld => ?_)
  refine wpAnyH_take (i := 0) (v := .pointer (some ⟨cb, 15, none⟩)) rfl (by kernel_rfl) (by kernel_rfl) (by kernel_rfl) (fun _ _ _ h => h) (Or.inl ⟨by rfl, fun w' hw' => by go_simp⟩) hHeld ?_
  simp only [Act.put, List.setIfInBounds_toArray, List.set_cons_zero, List.set_cons_succ]
  refine wpAnyH_take (i := 1) (v := .int .u64 (S 15 : Nat)) rfl (by kernel_rfl) (by kernel_rfl) (by kernel_rfl) (fun _ _ _ h => h) (Or.inl ⟨by rfl, fun w' hw' => by have k9 := hw'.u cb S (by simp) 15 (by unfold isU; decide); go_simp⟩) hHeld ?_
  simp only [Act.put, List.setIfInBounds_toArray, List.set_cons_zero, List.set_cons_succ]
  refine wpAnyH_take (i := 2) (v := .pointer (some ⟨cb, 16, none⟩)) rfl (by kernel_rfl) (by kernel_rfl) (by kernel_rfl) (fun _ _ _ h => h) (Or.inl ⟨by rfl, fun w' hw' => by go_simp⟩) hHeld ?_
  simp only [Act.put, List.setIfInBounds_toArray, List.set_cons_zero, List.set_cons_succ]
  refine wpAnyH_take (i := 3) (v := .int .u64 (S 16 : Nat)) rfl (by kernel_rfl) (by kernel_rfl) (by kernel_rfl) (fun _ _ _ h => h) (Or.inl ⟨by rfl, fun w' hw' => by have k9 := hw'.u cb S (by simp) 16 (by unfold isU; decide); go_simp⟩) hHeld ?_
  simp only [Act.put, List.setIfInBounds_toArray, List.set_cons_zero, List.set_cons_succ]
  refine wpAnyH_take (i := 4) (v := .pointer (some ⟨cb, 17, none⟩)) rfl (by kernel_rfl) (by kernel_rfl) (by kernel_rfl) (fun _ _ _ h => h) (Or.inl ⟨by rfl, fun w' hw' => by go_simp⟩) hHeld ?_
  simp only [Act.put, List.setIfInBounds_toArray, List.set_cons_zero, List.set_cons_succ]
  refine wpAnyH_take (i := 5) (v := .int .u64 (S 17 : Nat)) rfl (by kernel_rfl) (by kernel_rfl) (by kernel_rfl) (fun _ _ _ h => h) (Or.inl ⟨by rfl, fun w' hw' => by have k9 := hw'.u cb S (by simp) 17 (by unfold isU; decide); go_simp⟩) hHeld ?_
  simp only [Act.put, List.setIfInBounds_toArray, List.set_cons_zero, List.set_cons_succ]
  refine wpAnyH_take (i := 6) (v := .pointer (some ⟨eb, 15, none⟩)) rfl (by kernel_rfl) (by kernel_rfl) (by kernel_rfl) (fun _ _ _ h => h) (Or.inl ⟨by rfl, fun w' hw' => by go_simp⟩) hHeld ?_
  simp only [Act.put, List.setIfInBounds_toArray, List.set_cons_zero, List.set_cons_succ]
  clear hHeld
  generalize we.drew = wy at HP ⊢
  clear HX
  have hne : Hid (cb ≠ eb) := Nat.ne_of_lt HC.out
  refine wpAnyH_ready (rs := [7]) (by kernel_rfl) (by simp) ?_
  refine AllReadyH.cons rfl (fun K hK => ?_) AllReadyH.nil
  have kc := (HP.out.row eb D (by simp)).cell 15
  rw [cs_u D 15 (by unfold isU; decide)] at kc
  have kz := (HP.out.row eb D (by simp)).fz 15
  go_simp
  clear kc kz
  refine on_to hK (fun w' => Gs w [(eb, (setN D 15 (S 15))), (cb, S)] w') _ _ (gs_cell HP.out (by simpa using hne.out) 15 (S 15) (by unfold isU; decide)) (fun w' h => h.tail) ?_
  intro wz0 HP
  clear hK
  replace HP := Lib.hid HP
  refine wpAnyH_ready (rs := [8]) (by kernel_rfl) (by simp) ?_
  refine AllReadyH.cons rfl (fun K hK => ?_) AllReadyH.nil
  go_simp
  refine on_to hK (fun w' => Gs w [(eb, (setN D 15 (S 15))), (cb, S)] w') _ _ HP.out (fun w' h => h.tail) ?_
  intro wv1 HP
  clear hK
  replace HP := Lib.hid HP
  refine wpAnyH_ready (rs := [9]) (by kernel_rfl) (by simp) ?_
  refine AllReadyH.cons rfl (fun K hK => ?_) AllReadyH.nil
  have kc := (HP.out.row eb (setN D 15 (S 15)) (by simp)).cell 16
  rw [cs_u (setN D 15 (S 15)) 16 (by unfold isU; decide)] at kc
  have kz := (HP.out.row eb (setN D 15 (S 15)) (by simp)).fz 16
  go_simp
  clear kc kz
  refine on_to hK (fun w' => Gs w [(eb, (setN (setN D 15 (S 15)) 16 (S 16))), (cb, S)] w') _ _ (gs_cell HP.out (by simpa using hne.out) 16 (S 16) (by unfold isU; decide)) (fun w' h => h.tail) ?_
  intro wz1 HP
  clear hK
  replace HP := Lib.hid HP
  refine wpAnyH_ready (rs := [10]) (by kernel_rfl) (by simp) ?_
  refine AllReadyH.cons rfl (fun K hK => ?_) AllReadyH.nil
  go_simp
  refine on_to hK (fun w' => Gs w [(eb, (setN (setN D 15 (S 15)) 16 (S 16))), (cb, S)] w') _ _ HP.out (fun w' h => h.tail) ?_
  intro wv2 HP
  clear hK
  replace HP := Lib.hid HP
  refine wpAnyH_ready (rs := [11]) (by kernel_rfl) (by simp) ?_
  refine AllReadyH.cons rfl (fun K hK => ?_) AllReadyH.nil
  have kc := (HP.out.row eb (setN (setN D 15 (S 15)) 16 (S 16)) (by simp)).cell 17
  rw [cs_u (setN (setN D 15 (S 15)) 16 (S 16)) 17 (by unfold isU; decide)] at kc
  have kz := (HP.out.row eb (setN (setN D 15 (S 15)) 16 (S 16)) (by simp)).fz 17
  go_simp
  clear kc kz
  refine on_to hK (fun w' => Gs w [(eb, (setN (setN (setN D 15 (S 15)) 16 (S 16)) 17 (S 17))), (cb, S)] w') _ _ (gs_cell HP.out (by simpa using hne.out) 17 (S 17) (by unfold isU; decide)) (fun w' h => h.tail) ?_
  intro wz2 HP
  clear hK
  replace HP := Lib.hid HP
  refine wpAnyH_done (by decide +kernel) ?_ _
  obtain ⟨E, hE⟩ : ∃ E, (setN (setN (setN D 15 (S 15)) 16 (S 16)) 17 (S 17)) = E := ⟨_, rfl⟩
  have E0 : D 0 = E 0 := by rw [← hE]; rfl
  rw [hE] at HP
  rw [hE] at HALL
  rw [E0] at HN
  clear hE E0
  have k1 := HP.out.u eb E (by simp) 0 (by unfold isU; decide)
  have k2 := HP.out.u cb S (by simp) 0 (by unfold isU; decide)
  have k3 := (HP.out.row eb E (by simp)).fz 0
  have N1 := HN.out.1
  have N2 := HN.out.2
  have H2 : Hid (Gs w [(eb, setN E 0 (S 0)), (cb, S)] (wz2.setCell ⟨eb, 0, none⟩ (.int .u64 (S 0 : Nat)))) := gs_cell HP.out (by simpa using hne.out) 0 (S 0) (by unfold isU; decide)
  go_upto_region 13 with fail
  clear k1 k2 k3 N1 N2 HN HP
  generalize wz2.setCell ⟨eb, 0, none⟩ (.int .u64 (S 0 : Nat)) = w5 at H2 ⊢
  go_wp2_with (refine wpList_load_row rfl 26 _ rfl cb rfl 26 (cs S) (0, 0) _ (H2.out.row cb S (by simp)) Tryd.underlying26 rfl (infoS _) ?_)
  refine (HR.out _).mono ?_; rintro e w6 ⟨rfl, hb⟩
  replace H2 := Lib.hid (H2.out.below hb)
  clear hb HR
  go_upto_region 14 with (refine store_rowP (Gs w [(w6.heap.size, T), (eb, setN E 0 (S 0)), (cb, S)]) rfl 26 _ _ rfl w6.heap.size (cs T) rfl rfl 26 (cs Z38) (row_new _ _ _) (infoS _) rfl (oneS _) (gs_new H2.out T) ?_; rintro wf H3; replace H3 := Lib.hid H3)
  have HL := Lib.hid (gs_lt H2.out)
  have hb1 : Hid (cb < w6.heap.size) := HL.out (cb, S) (by simp)
  have hb2 : Hid (eb < w6.heap.size) := HL.out (eb, setN E 0 (S 0)) (by simp)
  generalize w6.heap.size = fb at H3 hb1 hb2 ⊢
  clear H2 HL
  have k1 := H3.out.u fb T (by simp) 0 (by unfold isU; decide)
  have k2 := H3.out.u cb S (by simp) 0 (by unfold isU; decide)
  have k3 := (H3.out.row fb T (by simp)).fz 0
  have H4 : Hid (Gs w [(fb, setN T 0 (S 0)), (eb, setN E 0 (S 0)), (cb, S)] (wf.setCell ⟨fb, 0, none⟩ (.int .u64 (S 0 : Nat)))) := gs_cell H3.out (fun p hp => by
    have h1 := hb1.out; have h2 := hb2.out
    simp only [List.mem_cons, List.mem_nil_iff, or_false] at hp
    rcases hp with rfl | rfl
    · exact Nat.ne_of_lt h2
    · exact Nat.ne_of_lt h1) 0 (S 0) (by unfold isU; decide)
  go_upto_region 15 with fail
  clear k1 k2 k3 H3
  generalize wf.setCell ⟨fb, 0, none⟩ (.int .u64 (S 0 : Nat)) = w7 at H4 ⊢
  have R1 : Row w7 fb 26 (cs S) := by rw [← HF.out]; exact H4.out.row fb _ (by simp)
  have R2 : Row w7 eb 26 (cs S) := by rw [← HALL.out]; exact H4.out.row eb _ (by simp)
  have R3 : Row w7 cb 26 (cs S) := H4.out.row cb S (by simp)
  replace R1 := Lib.hid R1; replace R2 := Lib.hid R2; replace R3 := Lib.hid R3
  have HB := Lib.hid H4.out.1
  clear H4 HALL HF
  go_wp2_with (first | (refine wpList_load_row rfl 26 _ rfl eb rfl 26 (cs S) (0, 0) _ R2.out Tryd.underlying26 rfl (infoS _) ?_) | (refine wpList_load_row rfl 26 _ rfl cb rfl 26 (cs S) (0, 0) _ R3.out Tryd.underlying26 rfl (infoS _) ?_) | (refine wpList_load_rowG (by kernel_rfl) 26 _ rfl fb rfl 26 (cs S) (0, 0) _ R1.out Tryd.underlying26 rfl (infoS _) ?_) | (refine wpList_load_rowG (by kernel_rfl) 26 _ rfl cb rfl 26 (cs S) (0, 0) _ R3.out Tryd.underlying26 rfl (infoS _) ?_) | (refine eq_csG (by kernel_rfl) _ _ _ rfl S rfl rfl ?_))
  go_ret
  exact retB_mk rfl HB.out
set_option maxRecDepth 100000 in
set_option maxHeartbeats 2000000 in
theorem keepsM (S D : Nat → Nat) (m kind : Int) (pc c v at0 : Nat) (hS : Hid (OkS S)) (hD : Hid (OkS D)) (hown : D 0 &&& (18446744073709551615 - 6280) = S 0 &&& (18446744073709551615 - 6280))
    (hall : cs (setN (setN (setN (setN D 6 (S 6)) 7 (S 7)) 8 (S 8)) 0 (S 0)) = cs S) (HE : Hid (∀ u, Calls Tryd.prog 9 #[.agg (cs S), .int .i64 m, .int .u64 pc, .int .u64 c, .int .u64 v] u (RetE D 3 at0 u))) (w : World) (hG : Hid (G w)) :
    Calls Tryd.prog 7 #[.agg (cs S), .int .i64 m, .int .i64 kind, .int .u64 pc, .int .u64 c, .int .u64 v] w (RetB true w) := by
  obtain ⟨T, t2, n2, HR, hF⟩ := ret_any S kind hS
  have HF := Lib.hid hF
  have N1 : bits .andNot .u64 ((D 0 : Nat) : Int) 6280 = ((S 0 &&& (18446744073709551615 - 6280) : Nat) : Int) := (u_andNot (D 0) 6280 (hD.out.u 0 (by decide)) (by decide)).trans (congrArg Nat.cast hown)
  have N2 : bits .andNot .u64 ((S 0 : Nat) : Int) 6280 = ((S 0 &&& (18446744073709551615 - 6280) : Nat) : Int) := u_andNot (S 0) 6280 (hS.out.u 0 (by decide)) (by decide)
  generalize S 0 &&& (18446744073709551615 - 6280) = y at N1 N2
  have HN : Hid (bits .andNot .u64 ((D 0 : Nat) : Int) 6280 = (y : Int) ∧ bits .andNot .u64 ((S 0 : Nat) : Int) 6280 = (y : Int)) := ⟨N1, N2⟩
  have HALL := Lib.hid hall
  clear hF hown hall hD N1 N2 hS
  go_enter Tryd.func7, Tryd.ntmps7
  go_wp2_with fail
  refine (awake_c _ (g_alloc hG.out _)).mono ?_; rintro e w1 ⟨rfl, hb⟩
  have HG : Hid (Gs w [(w.heap.size, S)] w1) := ⟨below_step hb ((Below.refl w.heap.size w).alloc (Nat.le_refl _) _) (by rw [sz_alloc]; omega), fun p hp => by
    obtain rfl := List.mem_singleton.1 hp
    exact ⟨Nat.le_refl _, Nat.lt_of_lt_of_le (by rw [sz_alloc]; exact Nat.lt_succ_self _) hb.size, (row_new w (cs S) 26).below hb (by rw [sz_alloc]; exact Nat.lt_succ_self _)⟩⟩
  clear hb hG
  obtain ⟨cb, hcb⟩ : ∃ cb, cb = w.heap.size := ⟨_, rfl⟩
  rw [← hcb] at HG
  go_wp2_with (refine wpList_load_row rfl 26 _ rfl w.heap.size rfl 26 (cs S) (0, 0) _ (by rw [← hcb]; exact HG.out.row cb S (by simp)) Tryd.underlying26 rfl (infoS _) ?_)
  refine (HE.out _).mono ?_; rintro e w2 ⟨rfl, hb⟩
  replace HG := Lib.hid (HG.out.below hb)
  clear hb HE
  rw [← hcb]
  clear hcb
  go_upto_region 4 with (refine store_rowP (Gs w [(w2.heap.size, D), (cb, S)]) rfl 26 _ _ rfl w2.heap.size (cs D) rfl rfl 26 (cs Z38) (row_new _ _ _) (infoS _) rfl (oneS _) (gs_new HG.out D) ?_; rintro wd HD; replace HD := Lib.hid HD)
  generalize w2.heap.size = db at HD ⊢
  clear HG w2
  go_upto_region 9 with (first | (refine store_rowP (Gs w [(wd.heap.size, D), (db, D), (cb, S)]) rfl 26 _ _ rfl wd.heap.size (cs D) rfl rfl 26 (cs Z38) (row_new _ _ _) (infoS _) rfl (oneS _) (gs_new HD.out D) ?_; rintro we HX; replace HX := Lib.hid HX) | (refine wpList_load_row rfl 26 _ rfl db rfl 26 (cs D) (0, 0) _ (HD.out.row db D (by simp)) Tryd.underlying26 rfl (infoS _) ?_))
  have HL := Lib.hid (gs_lt HD.out)
  have HC : Hid (cb < wd.heap.size) := HL.out (cb, S) (by simp)
  clear HD HL
  generalize wd.heap.size = eb at HX HC ⊢
  clear wd
  replace HX : Hid (Gs w [(eb, D), (cb, S)] we) := gs_perm HX.out (by simp)
  have HP := Lib.hid HX.out.drew
  refine wp_region_held_drew (S := Gs w [(cb, S)]) (by kernel_rfl) HX.out.tail.drew (fun hHeld => ?_)
  refine wpAnyH_take (i := 0) (v := .pointer (some ⟨cb, 6, none⟩)) rfl (by kernel_rfl) (by kernel_rfl) (by kernel_rfl) (fun _ _ _ h => h) (Or.inl ⟨by rfl, fun w' hw' => by go_simp⟩) hHeld ?_
  simp only [Act.put, List.setIfInBounds_toArray, List.set_cons_zero, List.set_cons_succ]
  refine wpAnyH_take (i := 1) (v := .int .u64 (S 6 : Nat)) rfl (by kernel_rfl) (by kernel_rfl) (by kernel_rfl) (fun _ _ _ h => h) (Or.inl ⟨by rfl, fun w' hw' => by have k9 := hw'.u cb S (by simp) 6 (by unfold isU; decide); go_simp⟩) hHeld ?_
  simp only [Act.put, List.setIfInBounds_toArray, List.set_cons_zero, List.set_cons_succ]
  refine wpAnyH_take (i := 2) (v := .pointer (some ⟨cb, 7, none⟩)) rfl (by kernel_rfl) (by kernel_rfl) (by kernel_rfl) (fun _ _ _ h => h) (Or.inl ⟨by rfl, fun w' hw' => by go_simp⟩) hHeld ?_
  simp only [Act.put, List.setIfInBounds_toArray, List.set_cons_zero, List.set_cons_succ]
  refine wpAnyH_take (i := 3) (v := .int .u64 (S 7 : Nat)) rfl (by kernel_rfl) (by kernel_rfl) (by kernel_rfl) (fun _ _ _ h => h) (Or.inl ⟨by rfl, fun w' hw' => by have k9 := hw'.u cb S (by simp) 7 (by unfold isU; decide); go_simp⟩) hHeld ?_
  simp only [Act.put, List.setIfInBounds_toArray, List.set_cons_zero, List.set_cons_succ]
  refine wpAnyH_take (i := 4) (v := .pointer (some ⟨cb, 8, none⟩)) rfl (by kernel_rfl) (by kernel_rfl) (by kernel_rfl) (fun _ _ _ h => h) (Or.inl ⟨by rfl, fun w' hw' => by go_simp⟩) hHeld ?_
  simp only [Act.put, List.setIfInBounds_toArray, List.set_cons_zero, List.set_cons_succ]
  refine wpAnyH_take (i := 5) (v := .int .u64 (S 8 : Nat)) rfl (by kernel_rfl) (by kernel_rfl) (by kernel_rfl) (fun _ _ _ h => h) (Or.inl ⟨by rfl, fun w' hw' => by have k9 := hw'.u cb S (by simp) 8 (by unfold isU; decide); go_simp⟩) hHeld ?_
  simp only [Act.put, List.setIfInBounds_toArray, List.set_cons_zero, List.set_cons_succ]
  refine wpAnyH_take (i := 6) (v := .pointer (some ⟨eb, 6, none⟩)) rfl (by kernel_rfl) (by kernel_rfl) (by kernel_rfl) (fun _ _ _ h => h) (Or.inl ⟨by rfl, fun w' hw' => by go_simp⟩) hHeld ?_
  simp only [Act.put, List.setIfInBounds_toArray, List.set_cons_zero, List.set_cons_succ]
  clear hHeld
  generalize we.drew = wy at HP ⊢
  clear HX
  have hne : Hid (cb ≠ eb) := Nat.ne_of_lt HC.out
  refine wpAnyH_ready (rs := [7]) (by kernel_rfl) (by simp) ?_
  refine AllReadyH.cons rfl (fun K hK => ?_) AllReadyH.nil
  have kc := (HP.out.row eb D (by simp)).cell 6
  rw [cs_u D 6 (by unfold isU; decide)] at kc
  have kz := (HP.out.row eb D (by simp)).fz 6
  go_simp
  clear kc kz
  refine on_to hK (fun w' => Gs w [(eb, (setN D 6 (S 6))), (cb, S)] w') _ _ (gs_cell HP.out (by simpa using hne.out) 6 (S 6) (by unfold isU; decide)) (fun w' h => h.tail) ?_
  intro wz0 HP
  clear hK
  replace HP := Lib.hid HP
  refine wpAnyH_ready (rs := [8]) (by kernel_rfl) (by simp) ?_
  refine AllReadyH.cons rfl (fun K hK => ?_) AllReadyH.nil
  go_simp
  refine on_to hK (fun w' => Gs w [(eb, (setN D 6 (S 6))), (cb, S)] w') _ _ HP.out (fun w' h => h.tail) ?_
  intro wv1 HP
  clear hK
  replace HP := Lib.hid HP
  refine wpAnyH_ready (rs := [9]) (by kernel_rfl) (by simp) ?_
  refine AllReadyH.cons rfl (fun K hK => ?_) AllReadyH.nil
  have kc := (HP.out.row eb (setN D 6 (S 6)) (by simp)).cell 7
  rw [cs_u (setN D 6 (S 6)) 7 (by unfold isU; decide)] at kc
  have kz := (HP.out.row eb (setN D 6 (S 6)) (by simp)).fz 7
  go_simp
  clear kc kz
  refine on_to hK (fun w' => Gs w [(eb, (setN (setN D 6 (S 6)) 7 (S 7))), (cb, S)] w') _ _ (gs_cell HP.out (by simpa using hne.out) 7 (S 7) (by unfold isU; decide)) (fun w' h => h.tail) ?_
  intro wz1 HP
  clear hK
  replace HP := Lib.hid HP
  refine wpAnyH_ready (rs := [10]) (by kernel_rfl) (by simp) ?_
  refine AllReadyH.cons rfl (fun K hK => ?_) AllReadyH.nil
  go_simp
  refine on_to hK (fun w' => Gs w [(eb, (setN (setN D 6 (S 6)) 7 (S 7))), (cb, S)] w') _ _ HP.out (fun w' h => h.tail) ?_
  intro wv2 HP
  clear hK
  replace HP := Lib.hid HP
  refine wpAnyH_ready (rs := [11]) (by kernel_rfl) (by simp) ?_
  refine AllReadyH.cons rfl (fun K hK => ?_) AllReadyH.nil
  have kc := (HP.out.row eb (setN (setN D 6 (S 6)) 7 (S 7)) (by simp)).cell 8
  rw [cs_u (setN (setN D 6 (S 6)) 7 (S 7)) 8 (by unfold isU; decide)] at kc
  have kz := (HP.out.row eb (setN (setN D 6 (S 6)) 7 (S 7)) (by simp)).fz 8
  go_simp
  clear kc kz
  refine on_to hK (fun w' => Gs w [(eb, (setN (setN (setN D 6 (S 6)) 7 (S 7)) 8 (S 8))), (cb, S)] w') _ _ (gs_cell HP.out (by simpa using hne.out) 8 (S 8) (by unfold isU; decide)) (fun w' h => h.tail) ?_
  intro wz2 HP
  clear hK
  replace HP := Lib.hid HP
  refine wpAnyH_done (by decide +kernel) ?_ _
  obtain ⟨E, hE⟩ : ∃ E, (setN (setN (setN D 6 (S 6)) 7 (S 7)) 8 (S 8)) = E := ⟨_, rfl⟩
  have E0 : D 0 = E 0 := by rw [← hE]; rfl
  rw [hE] at HP
  rw [hE] at HALL
  rw [E0] at HN
  clear hE E0
  have k1 := HP.out.u eb E (by simp) 0 (by unfold isU; decide)
  have k2 := HP.out.u cb S (by simp) 0 (by unfold isU; decide)
  have k3 := (HP.out.row eb E (by simp)).fz 0
  have N1 := HN.out.1
  have N2 := HN.out.2
  have H2 : Hid (Gs w [(eb, setN E 0 (S 0)), (cb, S)] (wz2.setCell ⟨eb, 0, none⟩ (.int .u64 (S 0 : Nat)))) := gs_cell HP.out (by simpa using hne.out) 0 (S 0) (by unfold isU; decide)
  go_upto_region 13 with fail
  clear k1 k2 k3 N1 N2 HN HP
  generalize wz2.setCell ⟨eb, 0, none⟩ (.int .u64 (S 0 : Nat)) = w5 at H2 ⊢
  go_wp2_with (refine wpList_load_row rfl 26 _ rfl cb rfl 26 (cs S) (0, 0) _ (H2.out.row cb S (by simp)) Tryd.underlying26 rfl (infoS _) ?_)
  refine (HR.out _).mono ?_; rintro e w6 ⟨rfl, hb⟩
  replace H2 := Lib.hid (H2.out.below hb)
  clear hb HR
  go_upto_region 14 with (refine store_rowP (Gs w [(w6.heap.size, T), (eb, setN E 0 (S 0)), (cb, S)]) rfl 26 _ _ rfl w6.heap.size (cs T) rfl rfl 26 (cs Z38) (row_new _ _ _) (infoS _) rfl (oneS _) (gs_new H2.out T) ?_; rintro wf H3; replace H3 := Lib.hid H3)
  have HL := Lib.hid (gs_lt H2.out)
  have hb1 : Hid (cb < w6.heap.size) := HL.out (cb, S) (by simp)
  have hb2 : Hid (eb < w6.heap.size) := HL.out (eb, setN E 0 (S 0)) (by simp)
  generalize w6.heap.size = fb at H3 hb1 hb2 ⊢
  clear H2 HL
  have k1 := H3.out.u fb T (by simp) 0 (by unfold isU; decide)
  have k2 := H3.out.u cb S (by simp) 0 (by unfold isU; decide)
  have k3 := (H3.out.row fb T (by simp)).fz 0
  have H4 : Hid (Gs w [(fb, setN T 0 (S 0)), (eb, setN E 0 (S 0)), (cb, S)] (wf.setCell ⟨fb, 0, none⟩ (.int .u64 (S 0 : Nat)))) := gs_cell H3.out (fun p hp => by
    have h1 := hb1.out; have h2 := hb2.out
    simp only [List.mem_cons, List.mem_nil_iff, or_false] at hp
    rcases hp with rfl | rfl
    · exact Nat.ne_of_lt h2
    · exact Nat.ne_of_lt h1) 0 (S 0) (by unfold isU; decide)
  go_upto_region 15 with fail
  clear k1 k2 k3 H3
  generalize wf.setCell ⟨fb, 0, none⟩ (.int .u64 (S 0 : Nat)) = w7 at H4 ⊢
  have R1 : Row w7 fb 26 (cs S) := by rw [← HF.out]; exact H4.out.row fb _ (by simp)
  have R2 : Row w7 eb 26 (cs S) := by rw [← HALL.out]; exact H4.out.row eb _ (by simp)
  have R3 : Row w7 cb 26 (cs S) := H4.out.row cb S (by simp)
  replace R1 := Lib.hid R1; replace R2 := Lib.hid R2; replace R3 := Lib.hid R3
  have HB := Lib.hid H4.out.1
  clear H4 HALL HF
  go_wp2_with (first | (refine wpList_load_row rfl 26 _ rfl eb rfl 26 (cs S) (0, 0) _ R2.out Tryd.underlying26 rfl (infoS _) ?_) | (refine wpList_load_row rfl 26 _ rfl cb rfl 26 (cs S) (0, 0) _ R3.out Tryd.underlying26 rfl (infoS _) ?_) | (refine wpList_load_rowG (by kernel_rfl) 26 _ rfl fb rfl 26 (cs S) (0, 0) _ R1.out Tryd.underlying26 rfl (infoS _) ?_) | (refine wpList_load_rowG (by kernel_rfl) 26 _ rfl cb rfl 26 (cs S) (0, 0) _ R3.out Tryd.underlying26 rfl (infoS _) ?_) | (refine eq_csG (by kernel_rfl) _ _ _ rfl S rfl rfl ?_))
  go_ret
  exact retB_mk rfl HB.out
theorem allM (S : Nat → Nat) (t pc c v : Nat) : cs (setN (setN (setN (setN (toM S t pc c v) 6 (S 6)) 7 (S 7)) 8 (S 8)) 0 (S 0)) = cs S := cs_congr (fun j _ => by
  by_cases h0 : j = 0
  · subst h0; rfl
  by_cases h1 : j = 6
  · subst h1; rfl
  by_cases h2 : j = 7
  · subst h2; rfl
  by_cases h3 : j = 8
  · subst h3; rfl
  have e0 : (j == 0) = false := by simpa using h0
  have e1 : (j == 6) = false := by simpa using h1
  have e2 : (j == 7) = false := by simpa using h2
  have e3 : (j == 8) = false := by simpa using h3
  simp only [toM, setN, e0, e1, e2, e3, cond_false])
theorem allS (S : Nat → Nat) (t pc c v : Nat) : cs (setN (setN (setN (setN (toS S t pc c v) 15 (S 15)) 16 (S 16)) 17 (S 17)) 0 (S 0)) = cs S := cs_congr (fun j _ => by
  by_cases h0 : j = 0
  · subst h0; rfl
  by_cases h1 : j = 15
  · subst h1; rfl
  by_cases h2 : j = 16
  · subst h2; rfl
  by_cases h3 : j = 17
  · subst h3; rfl
  have e0 : (j == 0) = false := by simpa using h0
  have e1 : (j == 15) = false := by simpa using h1
  have e2 : (j == 16) = false := by simpa using h2
  have e3 : (j == 17) = false := by simpa using h3
  simp only [toS, setN, e0, e1, e2, e3, cond_false])
theorem keeps_core (S : Nat → Nat) (m kind : Int) (pc c v : Nat) (hS : Hid (OkS S)) (hp : Hid (pc < 18446744073709551616)) (hc : Hid (c < 18446744073709551616)) (hv : Hid (v < 18446744073709551616)) (w : World) (hG : Hid (G w)) :
    Calls Tryd.prog 7 #[.agg (cs S), .int .i64 m, .int .i64 kind, .int .u64 pc, .int .u64 c, .int .u64 v] w (RetB true w) := by
  have s0 := hS.out.u 0 (by decide)
  rcases tk_cases m with e | e | e
  · cases hd : delB S c
    · exact keepsM S (toM S 0 pc c v) m kind pc c v _ hS (toM_ok hS.out 0 pc c v (Or.inl rfl) hc.out hv.out) (eM_own (S 0) 0 s0 (Or.inl rfl)) (allM S 0 pc c v) (fun u => enterM_0 S m pc c v hS hp hc hv e hd u) w hG
    · exact keepsS S (toS S 0 pc c v) m kind pc c v _ hS (toS_ok hS.out 0 pc c v (Or.inl rfl) hc.out hv.out) (eS_own (S 0) 0 s0 (Or.inl rfl)) (allS S 0 pc c v) (fun u => enterS_0 S m pc c v hS hp hc hv e hd u) w hG
  · cases hd : delB S c
    · exact keepsM S (toM S 1 pc c v) m kind pc c v _ hS (toM_ok hS.out 1 pc c v (Or.inr (Or.inl rfl)) hc.out hv.out) (eM_own (S 0) 1 s0 (Or.inr (Or.inl rfl))) (allM S 1 pc c v) (fun u => enterM_1 S m pc c v hS hp hc hv e hd u) w hG
    · exact keepsS S (toS S 1 pc c v) m kind pc c v _ hS (toS_ok hS.out 1 pc c v (Or.inr rfl) hc.out hv.out) (eS_own (S 0) 1 s0 (Or.inr rfl)) (allS S 1 pc c v) (fun u => enterS_1 S m pc c v hS hp hc hv e hd u) w hG
  · exact keepsM S (toM S 3 pc c v) m kind pc c v _ hS (toM_ok hS.out 3 pc c v (Or.inr (Or.inr rfl)) hc.out hv.out) (eM_own (S 0) 3 s0 (Or.inr (Or.inr rfl))) (allM S 3 pc c v) (fun u => enterM_3 S m pc c v hS hp hc hv e u) w hG

end Go.Proofs.YteeifdmnagbjeaaDoor
