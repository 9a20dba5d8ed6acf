/- The walk of CsrSettles. -/
import Derived.Test.YtmlbobjbkbcabaaE0
import Derived.Test.YtmlbobjbkbcabaaE1
namespace Go.Proofs.Ytmlbobjbkbcabaa
open Go.ChangeShapes Go.WideShapes Go.ChangeAt Go.RowKit Go.Sort P
set_option linter.unusedVariables false
set_option linter.unusedSimpArgs false
theorem wpList_eq_cs {ops : Array Oper} {rest : List Oper} {o : Oper} {a : Act} {w : World} {Q : Exit → Act → World → Prop} (hgd : o.guard = none) (x y : Operand) (t : TypeId) (ho : o.op = .binOp .eql 26 x y t) (S : Nat → Nat)
    (hx : a.eval x = .agg (cs S)) (hy : a.eval y = .agg (cs S)) (h : wpList Try.prog ops Q rest (a.put o.dst (.bool true)) w) : wpList Try.prog ops Q (o :: rest) a w :=
  wpList_plain hgd fun K hK => by
    have h2 : (execOp a.eval o).run Try.prog w = .ok (.value (.bool true)) w := by
      unfold execOp
      simp only [ho, hx, hy]
      rw [Sem.run_bind, binOp_eq_cs w x y S]; rfl
    unfold Oper.wp
    rw [h2]
    exact hK _ _ h
set_option maxRecDepth 100000 in
set_option maxHeartbeats 1000000 in
theorem settles_core (p : Option Addr) (b o N cap : Nat) (K : Nat → Int) (V : Nat → Nat) (n : Int) (w : World) (h : Hid (Lays w p b o N K V)) : Calls Try.prog 6 #[.slice p N cap, .int .i64 n] w (RetB true w) := by
  go_enter Try.func6, Try.ntmps6
  go_wp2_with fail
  refine (awake_c _).mono ?_; rintro e w1 ⟨rfl, hb⟩
  have HB : Hid (Below w.heap.size w w1) := hb
  clear hb
  go_wp2_with fail
  refine (held_c p b o N cap K V w1 (h.out.below HB.out)).mono ?_; rintro e w2 ⟨S, HL, rfl, hb⟩
  replace HB := Lib.hid (below_step hb HB.out HB.out.size)
  clear hb h
  go_upto_region 4 with (refine wpList_store_rowP (Had w w2.heap.size S) rfl 26 _ _ rfl w2.heap.size (cs S) rfl rfl 26 (cs Z38) (row_new _ _ _) (infoS _) rfl (oneS _) (had_start S HB.out) ?_; rintro wd HD; replace HD := Lib.hid HD)
  generalize w2.heap.size = cb at HD ⊢
  clear HB w2
  have HG := Lib.hid (gs_of_had HD.out)
  clear HD
  have HR : Hid (∀ u, Calls Try.prog 14 #[.agg (cs S), .int .i64 n, .int .u64 0, .int .u64 0] u (RetU (rdF S n 0 0) u)) := fun u => read_c S n 0 0 HL.out.ok (by show _ < _; decide) u
  have HWr : Hid (∀ u, Calls Try.prog 18 #[.agg (cs S), .int .i64 n, .int .u64 (rdF S n 0 0 : Nat)] u (RetS (wrF S n (rdF S n 0 0)) u)) := fun u => write_c S n _ HL.out.ok (Lib.hid (rd_lt HL.out.ok n 0 0 (by decide) (by decide))) u
  have HSB := Lib.hid (settle_back HL.out n)
  generalize rdF S n 0 0 = x at HR HWr HSB
  generalize wrF S n x = T at HWr HSB
  clear HL
  simp only [Act.put]
  go_cut [6] (fun dv wx => ∃ db, dv = .pointer (some ⟨db, 0, none⟩) ∧ Hid (Gs w [(db, T), (cb, S)] wx) ∧ Hid (∀ p ∈ [(cb, S)], p.1 < db))
  case first =>
    refine wp_region_held_drew (S := Gs w [(cb, S)]) (by kernel_rfl) HG.out.drew (fun hHeld => ?_)
    refine wpAnyH_take (i := 0) (v := .agg (cs S)) rfl (by kernel_rfl) (by kernel_rfl) (by kernel_rfl) (fun _ _ _ h => h) (Or.inl ⟨by rfl, fun w' hw' => run_load_row 26 _ rfl cb rfl 26 (cs S) (0, 0) _ (hw'.row cb S (by simp)) Try.underlying26 rfl (infoS _)⟩) hHeld ?_
    simp only [Act.put, List.setIfInBounds_toArray, List.set_cons_zero, List.set_cons_succ]
    refine wpAnyH_take (i := 1) (v := .int .i64 n) rfl (by kernel_rfl) (by kernel_rfl) (by kernel_rfl) (fun _ _ _ h => h) (Or.inl ⟨by rfl, fun w' hw' => by go_simp⟩) hHeld ?_
    simp only [Act.put, List.setIfInBounds_toArray, List.set_cons_zero, List.set_cons_succ]
    refine wpAnyH_take (i := 2) (v := .agg (cs S)) rfl (by kernel_rfl) (by kernel_rfl) (by kernel_rfl) (fun _ _ _ h => h) (Or.inl ⟨by rfl, fun w' hw' => run_load_row 26 _ rfl cb rfl 26 (cs S) (0, 0) _ (hw'.row cb S (by simp)) Try.underlying26 rfl (infoS _)⟩) hHeld ?_
    simp only [Act.put, List.setIfInBounds_toArray, List.set_cons_zero, List.set_cons_succ]
    refine wpAnyH_take (i := 3) (v := .int .i64 n) rfl (by kernel_rfl) (by kernel_rfl) (by kernel_rfl) (fun _ _ _ h => h) (Or.inl ⟨by rfl, fun w' hw' => by go_simp⟩) hHeld ?_
    simp only [Act.put, List.setIfInBounds_toArray, List.set_cons_zero, List.set_cons_succ]
    replace hHeld := Lib.hid hHeld
    generalize wd.drew = wy at hHeld ⊢
    refine wpAnyH_ready (rs := [4, 6]) (by kernel_rfl) (by simp) ?_
    refine AllReadyH.cons rfl (fun K hK => ?_) (AllReadyH.cons rfl (fun K hK => ?_) (AllReadyH.nil))
    · go_simp
      go_wp2_with (go_at_call 14; refine (HR.out _).mono ?_; rintro e wb ⟨rfl, hb⟩)
      refine on_to hK (fun w' => Gs w [(cb, S)] w') _ _ (hHeld.out.below hb) (fun w' h => h) ?_
      intro wz1 hp
      clear hK hb wb
      replace hp := Lib.hid hp
      refine wpAnyH_ready (rs := [5, 6]) (by kernel_rfl) (by simp) ?_
      refine AllReadyH.cons rfl (fun K hK => ?_) (AllReadyH.cons rfl (fun K hK => ?_) (AllReadyH.nil))
      · go_simp
        go_wp2_with (go_at_call 18; refine (HWr.out _).mono ?_; rintro e wb ⟨rfl, hb⟩)
        refine on_to hK (fun w' => Gs w [(cb, S)] w') _ _ (hp.out.below hb) (fun w' h => h) ?_
        intro wz2 hp
        clear hK hb wb
        replace hp := Lib.hid hp
        refine wpAnyH_ready (rs := [6]) (by kernel_rfl) (by simp) ?_
        refine AllReadyH.cons rfl (fun K hK => ?_) (AllReadyH.nil)
        go_simp
        refine on_to hK (fun w' => Gs w ((wz2.heap.size, Z38) :: [(cb, S)]) w') _ _ hp.out.alloc (fun w' h => h.tail) ?_
        have hl := Lib.hid hp.out.lt
        intro wz3 hp
        clear hK
        replace hp := Lib.hid hp
        refine wpAnyH_ready (rs := [7]) (by kernel_rfl) (by simp) ?_
        refine AllReadyH.cons rfl (fun K hK => ?_) (AllReadyH.nil)
        rw [if_pos (by rfl)]
        refine wp_store_row 26 _ _ rfl wz2.heap.size (cs T) rfl rfl 26 (cs Z38) (hp.out.row wz2.heap.size Z38 (by simp)) (infoS _) rfl (oneS _) ?_
        refine on_to hK (fun w' => Gs w ((wz2.heap.size, T) :: [(cb, S)]) w') _ _ (hp.out.set hl.out) (fun w' h => h.tail) ?_
        intro wq hq
        refine wpAnyH_done (by decide +kernel) ?_ _
        go_wp2_with fail
        go_meet
        case rel => exact ⟨wz2.heap.size, rfl, Lib.hid hq, hl⟩
      · go_simp
        refine on_to hK (fun w' => Gs w ((wz1.heap.size, Z38) :: [(cb, S)]) w') _ _ hp.out.alloc (fun w' h => h.tail) ?_
        have hl := Lib.hid hp.out.lt
        intro wz4 hp
        clear hK
        replace hp := Lib.hid hp
        refine wpAnyH_ready (rs := [5]) (by kernel_rfl) (by simp) ?_
        refine AllReadyH.cons rfl (fun K hK => ?_) (AllReadyH.nil)
        go_simp
        go_wp2_with (go_at_call 18; refine (HWr.out _).mono ?_; rintro e wb ⟨rfl, hb⟩)
        refine on_to hK (fun w' => Gs w ((wz1.heap.size, Z38) :: [(cb, S)]) w') _ _ (hp.out.below hb) (fun w' h => h.tail) ?_
        intro wz5 hp
        clear hK hb wb
        replace hp := Lib.hid hp
        refine wpAnyH_ready (rs := [7]) (by kernel_rfl) (by simp) ?_
        refine AllReadyH.cons rfl (fun K hK => ?_) (AllReadyH.nil)
        rw [if_pos (by rfl)]
        refine wp_store_row 26 _ _ rfl wz1.heap.size (cs T) rfl rfl 26 (cs Z38) (hp.out.row wz1.heap.size Z38 (by simp)) (infoS _) rfl (oneS _) ?_
        refine on_to hK (fun w' => Gs w ((wz1.heap.size, T) :: [(cb, S)]) w') _ _ (hp.out.set hl.out) (fun w' h => h.tail) ?_
        intro wq hq
        refine wpAnyH_done (by decide +kernel) ?_ _
        go_wp2_with fail
        go_meet
        case rel => exact ⟨wz1.heap.size, rfl, Lib.hid hq, hl⟩
    · go_simp
      refine on_to hK (fun w' => Gs w ((wy.heap.size, Z38) :: [(cb, S)]) w') _ _ hHeld.out.alloc (fun w' h => h.tail) ?_
      have hl := Lib.hid hHeld.out.lt
      intro wz6 hp
      clear hK
      replace hp := Lib.hid hp
      refine wpAnyH_ready (rs := [4]) (by kernel_rfl) (by simp) ?_
      refine AllReadyH.cons rfl (fun K hK => ?_) (AllReadyH.nil)
      go_simp
      go_wp2_with (go_at_call 14; refine (HR.out _).mono ?_; rintro e wb ⟨rfl, hb⟩)
      refine on_to hK (fun w' => Gs w ((wy.heap.size, Z38) :: [(cb, S)]) w') _ _ (hp.out.below hb) (fun w' h => h.tail) ?_
      intro wz7 hp
      clear hK hb wb
      replace hp := Lib.hid hp
      refine wpAnyH_ready (rs := [5]) (by kernel_rfl) (by simp) ?_
      refine AllReadyH.cons rfl (fun K hK => ?_) (AllReadyH.nil)
      go_simp
      go_wp2_with (go_at_call 18; refine (HWr.out _).mono ?_; rintro e wb ⟨rfl, hb⟩)
      refine on_to hK (fun w' => Gs w ((wy.heap.size, Z38) :: [(cb, S)]) w') _ _ (hp.out.below hb) (fun w' h => h.tail) ?_
      intro wz8 hp
      clear hK hb wb
      replace hp := Lib.hid hp
      refine wpAnyH_ready (rs := [7]) (by kernel_rfl) (by simp) ?_
      refine AllReadyH.cons rfl (fun K hK => ?_) (AllReadyH.nil)
      rw [if_pos (by rfl)]
      refine wp_store_row 26 _ _ rfl wy.heap.size (cs T) rfl rfl 26 (cs Z38) (hp.out.row wy.heap.size Z38 (by simp)) (infoS _) rfl (oneS _) ?_
      refine on_to hK (fun w' => Gs w ((wy.heap.size, T) :: [(cb, S)]) w') _ _ (hp.out.set hl.out) (fun w' h => h.tail) ?_
      intro wq hq
      refine wpAnyH_done (by decide +kernel) ?_ _
      go_wp2_with fail
      go_meet
      case rel => exact ⟨wy.heap.size, rfl, Lib.hid hq, hl⟩
  case rest =>
    obtain ⟨db, rfl, HG2, hl⟩ := hcut
    clear HG HR HWr
    have hlt : cb < db := hl.out (cb, S) (by simp)
    have ne := Nat.ne_of_lt hlt
    have c0 := HG2.out.u cb S (by simp) 0 (by unfold isU; decide)
    by_cases hn : 1 ≤ n ∧ n ≤ 3
    · have n1 := hn.1
      have n2 := hn.2
      have hs := cs_set T 0 (S 0) (by unfold isU; decide)
      have ec : cs (setN T 0 (S 0)) = cs S := cs_congr fun k hk => by
        by_cases e : k = 0
        · subst e; exact setN_at _ _ _
        · rw [setN_ne e]; exact HSB.out k hk (fun q => absurd q e)
      have RD := Lib.hid ((HG2.out.row db T (by simp)).set 0 (.int .u64 (S 0 : Nat)))
      rw [hs, ec] at RD
      have RC := Lib.hid ((HG2.out.row cb S (by simp)).set_ne (b' := db) (by omega) 0 (.int .u64 (S 0 : Nat)))
      have HB9 : Hid (Below w.heap.size w (wc.setCell ⟨db, 0, none⟩ (.int .u64 (S 0 : Nat)))) := HG2.out.1.setCell (HG2.out.2 (db, T) (by simp)).1 _
      have d0 := HG2.out.u db T (by simp) 0 (by unfold isU; decide)
      have fz := (HG2.out.row db T (by simp)).fz 0
      clear hs hn
      go_wp2_with (first | (refine wpList_load_row rfl 26 _ rfl db rfl 26 (cs S) (0, 0) _ RD.out Try.underlying26 rfl (infoS _) ?_) | (refine wpList_load_row rfl 26 _ rfl cb rfl 26 (cs S) (0, 0) _ RC.out Try.underlying26 rfl (infoS _) ?_) | (refine wpList_eq_cs rfl _ _ _ rfl S rfl rfl ?_))
      go_ret
      exact retB_mk rfl HB9.out
    · have ec : cs T = cs S := cs_congr fun k hk => HSB.out k hk (fun _ => hn)
      have RD := Lib.hid (HG2.out.row db T (by simp))
      rw [ec] at RD
      have RC := Lib.hid (HG2.out.row cb S (by simp))
      clear ec c0
      by_cases n1 : 1 ≤ n
      · have n2 : ¬ n ≤ 3 := fun q => hn ⟨n1, q⟩
        clear hn
        go_wp2_with (first | (refine wpList_load_row rfl 26 _ rfl db rfl 26 (cs S) (0, 0) _ RD.out Try.underlying26 rfl (infoS _) ?_) | (refine wpList_load_row rfl 26 _ rfl cb rfl 26 (cs S) (0, 0) _ RC.out Try.underlying26 rfl (infoS _) ?_) | (refine wpList_eq_cs rfl _ _ _ rfl S rfl rfl ?_))
        go_ret
        exact retB_mk rfl HG2.out.1
      · clear hn
        go_wp2_with (first | (refine wpList_load_row rfl 26 _ rfl db rfl 26 (cs S) (0, 0) _ RD.out Try.underlying26 rfl (infoS _) ?_) | (refine wpList_load_row rfl 26 _ rfl cb rfl 26 (cs S) (0, 0) _ RC.out Try.underlying26 rfl (infoS _) ?_) | (refine wpList_eq_cs rfl _ _ _ rfl S rfl rfl ?_))
        go_ret
        exact retB_mk rfl HG2.out.1
end Go.Proofs.Ytmlbobjbkbcabaa
