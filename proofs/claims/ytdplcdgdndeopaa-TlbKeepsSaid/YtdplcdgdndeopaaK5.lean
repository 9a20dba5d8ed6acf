/- The code's Find, walked. -/
import Derived.Test.YtdplcdgdndeopaaK4
namespace Go.Proofs.Ytdplcdgdndeopaa
open Go.ChangeShapes Go.WideShapes Go.ChangeAt Go.RowKit Go.Sort
set_option linter.unusedVariables false
set_option linter.unusedSimpArgs false
theorem look_at {b m : Nat} {X : St} {u : World} (h : Tb b m X X u) (hX : X.Ok) (s a k : Nat) (ha : a < 18446744073709551616) (hs : s < 18446744073709551616) (hk : k < 6) {A S : Nat} {L : Int} {G : Bool} (e1 : A = (nmX a s k).ad) (e2 : L = (nmX a s k).lv) (e3 : G = (nmX a s k).gl) (e4 : S = spN (nmX a s k)) :
    ∀ d os, (Instr.lookup 54 (.map (some m)) (.agg #[.int .u64 (A : Nat), .int .i64 L, .bool G, .int .u64 (S : Nat)]) true).run Try.prog (grow (redrawn u d) os) = .ok (.tuple #[.int .i64 ((atF X s a k).getD 0 : Nat), .bool (atF X s a k).isSome]) (grow (redrawn u d) os) := by
  intro d os
  have := (h.below (below_regrown u d os)).look hX (nmX a s k) (nmX_wf a s k ha hs hk)
  rw [← e1, ← e2, ← e3, ← e4] at this
  exact this
theorem info_ky (A S : Nat) (L : Int) (G : Bool) : (Try.prog.info? 68).map (·.size) = some (#[.int .u64 (A : Nat), .int .i64 L, .bool G, .int .u64 (S : Nat)] : Array Value).size := by show _ = some 4; kernel_rfl
set_option maxRecDepth 100000 in
set_option maxHeartbeats 4000000 in
theorem find_k (b m : Nat) (X : St) (hX : Hid X.Ok) (hA : Hid (Al X)) (s a : Nat) (hs : Hid (s < 18446744073709551616)) (ha : Hid (a < 18446744073709551616)) (w : World) (h : Hid (Tb b m X X w)) :
    Calls Try.prog 14 #[.pointer (some ⟨b, 0, none⟩), .int .u64 (s : Nat), .int .u64 (a : Nat)] w (RetF (findE X s a) (findB X s a) w) := by
  obtain ⟨W0, hW0⟩ : ∃ W0, W0 = w.alloc (Obj.cells E0.v 33) := ⟨_, rfl⟩
  have H0 : Hid (Fd b m X w W0) := by
    have hb : Below w.heap.size w W0 := by rw [hW0]; exact (Below.refl _ _).alloc (Nat.le_refl _) _
    exact ⟨hb, by rw [hW0]; exact row_new _ _ _, by rw [hW0, sz_alloc]; exact Nat.lt_succ_self _, h.out.below hb⟩
  have HN := Lib.hid (fun u => namesFor_c s a ha.out u)
  have HI := Lib.hid (fun k hk => nm_ix a s k hk)
  have HL := Lib.hid (least_eq hX.out hA.out s a)
  generalize nm6 (a / 4096 * 4096) (a / 2097152 * 2097152) (a / 1073741824 * 1073741824) s = NS at HN HI
  have HW := Lib.hid hW0
  clear hW0 h hA
  go_enter Try.func14, Try.ntmps14
  go_upto_region 1 with fail
  rw [show w.alloc (Obj.cells #[.int .u64 0, .int .i64 0, .int .u64 0, .bool false, .int .u64 0] 33) = W0 from HW.out.symm]
  clear HW
  go_wp2_with (go_at_call 29; refine (HN.out _).mono ?_; rintro e w1 ⟨rfl, hb⟩; have H1 := Lib.hid (H0.out.below hb); clear hb H0 HN)
  go_loopg [8, 16] 6 (fun gg v i wr => ∃ k : Nat, k + gg = 6 ∧ i = .int .i64 k ∧ v = .int .i64 (lsN (atF X s a) k : Nat) ∧ Hid (Fd b m X w wr))
  case atStart => exact ⟨0, rfl, rfl, rfl, H1.out⟩
  case round =>
    obtain ⟨k, hk, rfl, rfl, hr⟩ := hrel
    clear H1
    cases gk with
    | zero =>
      obtain rfl : k = 6 := by omega
      cases hf : findN X s a with
      | none =>
        have e8 : lsN (atF X s a) 6 = 8 := by rw [HL.out, hf]; rfl
        rw [e8]
        have HF := Lib.hid hf
        clear hf e8 HL
        go_wp2_with (refine wpList_store_rowP (fun wx => Below w.heap.size w wx ∧ Row wx w.heap.size 33 E0.v) rfl 33 _ _ rfl w.heap.size E0.v rfl rfl 33 E0.v hr.out.rr (info_te E0) rfl (one_en _) ⟨below_setRow hr.out.out (Nat.le_refl _) _, hr.out.rr.setRow _⟩ ?_; rintro wz ⟨hb2, hr2⟩)
        refine bodyPost_ret (results_row2 rfl _ _ w.heap.size 33 E0.v (0, 0) _ rfl hr2 Try.underlying33 rfl (info_te E0)) rfl ?_
        refine ⟨?_, hb2⟩
        unfold findE findB
        rw [HF.out]; rfl
      | some n =>
        have e8 : lsN (atF X s a) 6 = n := by rw [HL.out, hf]; rfl
        have hn : n < 8 := by have := (fst_some hf).2.1; omega
        have d1 : ((n : Int) == 8) = false := by rw [beq_eq_false_iff_ne]; omega
        have d2 : decide ((n : Int) = 8) = false := decide_eq_false (by omega)
        rw [e8]
        have HF := Lib.hid hf
        have HN := Lib.hid hn
        have hlt : (n : Int) < 8 := by omega
        clear hf e8 HL
        have Hx := Lib.hid (fun j hj => hr.out.t.ent hn j hj)
        have HX2 : Hid (findE X s a = X.e n ∧ findB X s a = true) := ⟨by unfold findE; rw [HF.out], by unfold findB; rw [HF.out]; rfl⟩
        generalize X.e n = x at Hx HX2
        clear HF
        go_wp2_with (first
          | (refine wpList_load_at rfl 33 _ rfl b (n * 6 + 1) rfl x.v _ Hx.out Try.underlying33 rfl (info_te x) ?_)
          | (refine wpList_store_rowP (fun wx => Below w.heap.size w wx ∧ Row wx w.heap.size 33 x.v) rfl 33 _ _ rfl w.heap.size x.v rfl rfl 33 E0.v hr.out.rr (info_te x) rfl (one_en _) ⟨below_setRow hr.out.out (Nat.le_refl _) _, hr.out.rr.setRow _⟩ ?_; rintro wz ⟨hb2, hr2⟩))
        refine bodyPost_ret (results_row2 rfl _ _ w.heap.size 33 x.v (0, 0) _ rfl hr2 Try.underlying33 rfl (info_te x)) rfl ?_
        exact ⟨by rw [HX2.out.1, HX2.out.2]; rfl, hb2⟩
    | succ gg =>
      have h6 : k < 6 := by omega
      obtain ⟨A, L, G, S, hix, e1, e2, e3, e4⟩ := HI.out k h6
      obtain ⟨u, hu⟩ : ∃ u, u = wr.alloc (Obj.cells #[.int .u64 (A : Nat), .int .i64 L, .bool G, .int .u64 (S : Nat)] 68) := ⟨_, rfl⟩
      have hub : Below wr.heap.size wr u := by rw [hu]; exact (Below.refl _ _).alloc (Nat.le_refl _) _
      have HR2 := Lib.hid (hr.out.below hub)
      have RK : Row u wr.heap.size 68 #[.int .u64 (A : Nat), .int .i64 L, .bool G, .int .u64 (S : Nat)] := by rw [hu]; exact row_new _ _ _
      have hlook := look_at HR2.out.t hX.out s a k ha.out hs.out h6 e1 e2 e3 e4
      have c48 := cell_regrown HR2.out.t.c48
      have hlt : (k : Int) < 6 := by omega
      have HU := Lib.hid hu
      clear hu hub e1 e2 e3 e4
      have k0 := cell_regrown (show u.cell? ⟨wr.heap.size, 0, none⟩ = some (.int .u64 (A : Nat)) from (RK.cell 0).trans rfl)
      have k1 := cell_regrown (show u.cell? ⟨wr.heap.size, 1, none⟩ = some (.int .i64 L) from (RK.cell 1).trans rfl)
      have k2 := cell_regrown (show u.cell? ⟨wr.heap.size, 2, none⟩ = some (.bool G) from (RK.cell 2).trans rfl)
      have k3 := cell_regrown (show u.cell? ⟨wr.heap.size, 3, none⟩ = some (.int .u64 (S : Nat)) from (RK.cell 3).trans rfl)
      clear RK
      cases hat : atF X s a k with
      | none =>
        rw [hat] at hlook
        have HE := Lib.hid (lsN_none hat)
        replace hlook : ∀ d os, (Instr.lookup 54 (.map (some m)) (.agg #[.int .u64 (A : Nat), .int .i64 L, .bool G, .int .u64 (S : Nat)]) true).run Try.prog (grow (redrawn u d) os) = .ok (.tuple #[.int .i64 0, .bool false]) (grow (redrawn u d) os) := hlook
        clear hat
        generalize lsN (atF X s a) k = l0 at HE ⊢
        go_upto_region 5 with fail
        rw [show wr.alloc (Obj.cells #[.int .u64 (A : Nat), .int .i64 L, .bool G, .int .u64 (S : Nat)] 68) = u from HU.out.symm]
        refine wp_region_quiet_below (by kernel_rfl) (by kernel_rfl) ?_
        repeat (first
          | go_big_quiet_skip
          | (go_big_quiet_want; go_big_quiet_op; first | go_big_quiet_on | go_big_quiet_call (fail)))
        refine wpQuiet_nil ?_
        intro _ hw'
        obtain ⟨⟨dq, osq⟩, hw''⟩ := hw'
        subst hw''
        have HR5 := Lib.hid (HR2.out.below (below_regrown u dq osq))
        clear hlook c48 k0 k1 k2 k3 HU HR2
        generalize grow (redrawn u dq) osq = w5 at HR5 ⊢
        go_wp2_with fail
        go_roundg gg
        case measure => omega
        exact ⟨k + 1, by omega, by push_cast; rfl, by rw [HE.out], HR5.out⟩
      | some p =>
        rw [hat] at hlook
        have HE := Lib.hid (lsN_some hat)
        replace hlook : ∀ d os, (Instr.lookup 54 (.map (some m)) (.agg #[.int .u64 (A : Nat), .int .i64 L, .bool G, .int .u64 (S : Nat)]) true).run Try.prog (grow (redrawn u d) os) = .ok (.tuple #[.int .i64 (p : Nat), .bool true]) (grow (redrawn u d) os) := hlook
        clear hat
        generalize lsN (atF X s a) k = l0 at HE ⊢
        go_upto_region 5 with fail
        rw [show wr.alloc (Obj.cells #[.int .u64 (A : Nat), .int .i64 L, .bool G, .int .u64 (S : Nat)] 68) = u from HU.out.symm]
        refine wp_region_quiet_below (by kernel_rfl) (by kernel_rfl) ?_
        repeat (first
          | go_big_quiet_skip
          | (go_big_quiet_want; go_big_quiet_op; first | go_big_quiet_on | go_big_quiet_call (fail)))
        refine wpQuiet_nil ?_
        intro _ hw'
        obtain ⟨⟨dq, osq⟩, hw''⟩ := hw'
        subst hw''
        have HR5 := Lib.hid (HR2.out.below (below_regrown u dq osq))
        clear hlook c48 k0 k1 k2 k3 HU HR2
        generalize grow (redrawn u dq) osq = w5 at HR5 ⊢
        go_wp2_with fail
        all_goals
          go_roundg gg
          case measure => omega
          exact ⟨k + 1, by omega, by push_cast; rfl, by rw [HE.out]; congr 1; omega, HR5.out⟩
end Go.Proofs.Ytdplcdgdndeopaa
