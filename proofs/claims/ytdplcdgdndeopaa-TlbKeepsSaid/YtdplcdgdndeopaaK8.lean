/- The code's placeFor. -/
import Derived.Test.YtdplcdgdndeopaaK7
namespace Go.Proofs.Ytdplcdgdndeopaa
open Go.ChangeShapes Go.WideShapes Go.ChangeAt Go.RowKit Go.Sort
set_option linter.unusedVariables false
set_option linter.unusedSimpArgs false
theorem sd_eq2 (s : Nat) : IntKind.u64.wrap (IntKind.u64.wrap ((s : Int) * 6364136223846793005) + 1442695040888963407) = ((sdN s : Nat) : Int) := by
  rw [Int.mul_comm]; exact sd_eq s
theorem Tb.seed {b m : Nat} {X : St} {w : World} (h : Tb b m X X w) (s : Nat) : Tb b m ⟨X.e, X.is, s⟩ ⟨X.e, X.is, s⟩ (w.setCell ⟨b, 49, none⟩ (.int .u64 (s : Nat))) := by
  obtain ⟨D, n, hn, hm, hD⟩ := h.map
  have ho : Own (fun k => k = b) w (w.setCell ⟨b, 49, none⟩ (.int .u64 (s : Nat))) := own_set (Own.refl _ _) b 49 _ rfl
  exact ⟨h.bm, by rw [sz_set]; exact h.lb, h.row.set 49 _, D, n, hn, own_map hm ho (fun e => h.bm e.symm), ⟨hD.tidy, hD.has, hD.only, hD.size⟩⟩
theorem Tb.same {b m : Nat} {X : St} {w : World} (h : Tb b m X X w) : Tb b m ⟨X.e, X.is, X.sd⟩ ⟨X.e, X.is, X.sd⟩ w := h
theorem Tb.ps {b m : Nat} {X Y : St} {w : World} (h : Tb b m X Y w) : ∀ j, j < (psC X).size → w.cell? ⟨b, 0 + j, none⟩ = (psC X)[j]? := fun j hj => by
  rw [Nat.zero_add, h.row.cell, tC_ps X m j hj]
theorem ps_ix5 (X : St) (n : Nat) (hn : n < 8) : ∃ ad sp lf lv gl, X.e n = ⟨ad, lv, sp, gl, lf⟩ ∧ ∀ w, (Instr.index 57 (.agg (psC X)) (.int .i64 n)).run Try.prog w = .ok (.agg #[.bool (X.is n), .int .u64 (ad : Nat), .int .i64 lv, .int .u64 (sp : Nat), .bool gl, .int .u64 (lf : Nat)]) w :=
  ⟨(X.e n).ad, (X.e n).sp, (X.e n).lf, (X.e n).lv, (X.e n).gl, rfl, fun w => ps_ix X n hn w⟩
set_option maxRecDepth 100000 in
set_option maxHeartbeats 4000000 in
theorem placeFor_c (b m : Nat) (X : St) (hX : Hid X.Ok) (ad sp lf : Nat) (lv : Int) (gl : Bool) (hx : Hid (En.Wf ⟨ad, lv, sp, gl, lf⟩)) (w : World) (h : Hid (Tb b m X X w)) :
    Calls Try.prog 26 #[.pointer (some ⟨b, 0, none⟩), .agg #[.int .u64 (ad : Nat), .int .i64 lv, .int .u64 (sp : Nat), .bool gl, .int .u64 (lf : Nat)]] w
      (RetM b m ⟨X.e, X.is, (placeN X ⟨ad, lv, sp, gl, lf⟩).2⟩ ⟨X.e, X.is, (placeN X ⟨ad, lv, sp, gl, lf⟩).2⟩ (.int .i64 ((placeN X ⟨ad, lv, sp, gl, lf⟩).1 : Nat)) w) := by
  obtain ⟨W0, hW0⟩ : ∃ W0, W0 = w.alloc (Obj.cells (En.v ⟨ad, lv, sp, gl, lf⟩) 33) := ⟨_, rfl⟩
  have H0 : Hid (Bx b m w.heap.size ⟨ad, lv, sp, gl, lf⟩ X X w W0) := by show Bx _ _ _ _ _ _ _ _; rw [hW0]; exact bx_new h.out
  have HW := Lib.hid hW0
  have hN := Lib.hid (fun u => nameOf_c ⟨ad, lv, sp, gl, lf⟩ u)
  have hL : ∀ d os, (Instr.lookup 54 (.map (some m)) (keyV ad lv gl (spN ⟨ad, lv, sp, gl, lf⟩)) true).run Try.prog (grow (redrawn W0 d) os) = .ok (.tuple #[.int .i64 ((fst (fun n => X.is n && sameB (X.e n) ⟨ad, lv, sp, gl, lf⟩) 0 8).getD 0 : Nat), .bool (fst (fun n => X.is n && sameB (X.e n) ⟨ad, lv, sp, gl, lf⟩) 0 8).isSome]) (grow (redrawn W0 d) os) :=
    fun d os => (H0.out.t.below (below_regrown W0 d os)).look hX.out ⟨ad, lv, sp, gl, lf⟩ hx.out
  replace hN : Hid (∀ u, Calls Try.prog 34 #[.agg #[.int .u64 (ad : Nat), .int .i64 lv, .int .u64 (sp : Nat), .bool gl, .int .u64 (lf : Nat)]] u (fun e w' => e = .returned (keyV ad lv gl (spN ⟨ad, lv, sp, gl, lf⟩)) ∧ Below u.heap.size u w')) := hN
  generalize keyV ad lv gl (spN ⟨ad, lv, sp, gl, lf⟩) = kv at hN hL
  have P1 : Hid (∀ k, k < 8 → (∀ j, j < k → takenB X ⟨ad, lv, sp, gl, lf⟩ j = false) → takenB X ⟨ad, lv, sp, gl, lf⟩ k = true → placeN X ⟨ad, lv, sp, gl, lf⟩ = (k, X.sd)) := fun k => place_1
  have P2 : Hid (∀ k, k < 8 → (∀ j, j < 8 → takenB X ⟨ad, lv, sp, gl, lf⟩ j = false) → (∀ j, j < k → (!X.is j) = false) → (!X.is k) = true → placeN X ⟨ad, lv, sp, gl, lf⟩ = (k, X.sd)) := fun k => place_2
  have P3 : Hid ((∀ j, j < 8 → takenB X ⟨ad, lv, sp, gl, lf⟩ j = false) → (∀ j, j < 8 → (!X.is j) = false) → placeN X ⟨ad, lv, sp, gl, lf⟩ = (sdN X.sd / 2305843009213693952, sdN X.sd)) := place_3
  clear hW0 h
  go_enter Try.func26, Try.ntmps26
  go_upto_region 1 with fail
  rw [show w.alloc (Obj.cells #[.int .u64 (ad : Nat), .int .i64 lv, .int .u64 (sp : Nat), .bool gl, .int .u64 (lf : Nat)] 33) = W0 from HW.out.symm]
  clear HW
  obtain ⟨g, hg⟩ : ∃ g, w.heap.size = g := ⟨_, rfl⟩
  rw [hg] at H0 ⊢
  clear hg
  have k0 := cell_regrown (show W0.cell? ⟨g, 0, none⟩ = some (.int .u64 (ad : Nat)) from (H0.out.re.cell 0).trans rfl)
  have k1 := cell_regrown (show W0.cell? ⟨g, 1, none⟩ = some (.int .i64 lv) from (H0.out.re.cell 1).trans rfl)
  have k2 := cell_regrown (show W0.cell? ⟨g, 2, none⟩ = some (.int .u64 (sp : Nat)) from (H0.out.re.cell 2).trans rfl)
  have k3 := cell_regrown (show W0.cell? ⟨g, 3, none⟩ = some (.bool gl) from (H0.out.re.cell 3).trans rfl)
  have k4 := cell_regrown (show W0.cell? ⟨g, 4, none⟩ = some (.int .u64 (lf : Nat)) from (H0.out.re.cell 4).trans rfl)
  have c48 := cell_regrown H0.out.t.c48
  have qN : ∀ dd os, Calls Try.prog 34 #[.agg #[.int .u64 (ad : Nat), .int .i64 lv, .int .u64 (sp : Nat), .bool gl, .int .u64 (lf : Nat)]] (grow (redrawn W0 dd) os) fun e w'' => e = .returned kv ∧ ∃ p : Regrown, w'' = grow (redrawn W0 p.d) p.os := fun dd os => q_V (hN.out _)
  clear hN
  cases hf : fst (fun n => X.is n && sameB (X.e n) ⟨ad, lv, sp, gl, lf⟩) 0 8 with
  | some n =>
    rw [hf] at hL
    replace hL : ∀ d os, (Instr.lookup 54 (.map (some m)) kv true).run Try.prog (grow (redrawn W0 d) os) = .ok (.tuple #[.int .i64 (n : Nat), .bool true]) (grow (redrawn W0 d) os) := hL
    have hp : Hid (placeN X ⟨ad, lv, sp, gl, lf⟩ = (n, X.sd)) := by
      obtain ⟨_, q2, q3, q4⟩ := fst_some hf
      exact P1.out n (by omega) (fun j hj => q4 j (Nat.zero_le _) hj) q3
    clear hf
    refine wp_region_quiet_below (by kernel_rfl) (by kernel_rfl) ?_
    repeat (first
      | go_big_quiet_skip
      | (go_big_quiet_want; go_big_quiet_op; first | go_big_quiet_on | go_big_quiet_call ((go_at_call 34; exact qN _ _))))
    refine wpQuiet_nil ?_
    intro _ hw'
    obtain ⟨⟨dq, osq⟩, hw''⟩ := hw'
    subst hw''
    have H3 := Lib.hid (H0.out.below (below_regrown W0 dq osq))
    generalize grow (redrawn W0 dq) osq = w3 at H3 ⊢
    clear k0 k1 k2 k3 k4 c48 qN hL H0
    go_wp2_with fail
    go_ret
    rw [hp.out]
    exact ⟨rfl, H3.out.t.same, H3.out.o⟩
  | none =>
    rw [hf] at hL
    replace hL : ∀ d os, (Instr.lookup 54 (.map (some m)) kv true).run Try.prog (grow (redrawn W0 d) os) = .ok (.tuple #[.int .i64 0, .bool false]) (grow (redrawn W0 d) os) := hL
    have hnone : Hid (∀ j, j < 8 → takenB X ⟨ad, lv, sp, gl, lf⟩ j = false) := fun j hj => fst_none hf j (Nat.zero_le _) (by omega)
    clear hf
    refine wp_region_quiet_below (by kernel_rfl) (by kernel_rfl) ?_
    repeat (first
      | go_big_quiet_skip
      | (go_big_quiet_want; go_big_quiet_op; first | go_big_quiet_on | go_big_quiet_call ((go_at_call 34; exact qN _ _))))
    refine wpQuiet_nil ?_
    intro _ hw'
    obtain ⟨⟨dq, osq⟩, hw''⟩ := hw'
    subst hw''
    have H3 := Lib.hid (H0.out.below (below_regrown W0 dq osq))
    generalize grow (redrawn W0 dq) osq = w3 at H3 ⊢
    clear k0 k1 k2 k3 k4 c48 qN hL H0
    go_wp2_with (refine wpList_load_at rfl 57 _ rfl b 0 rfl (psC X) _ H3.out.t.ps Try.underlying57 rfl (info_ps X) ?_)
    go_loopg [25] 8 (fun gg i wr => ∃ k : Nat, k + gg = 8 ∧ i = .int .i64 k ∧ Hid (∀ j, j < k → (!X.is j) = false) ∧ Hid (Bx b m g ⟨ad, lv, sp, gl, lf⟩ X X w wr))
    case atStart => exact ⟨0, rfl, rfl, fun j hj => absurd hj (Nat.not_lt_zero _), H3.out⟩
    case round =>
      obtain ⟨k, hk, rfl, hq, hr⟩ := hrel
      clear H3
      cases gk with
      | zero =>
        obtain rfl : k = 8 := by omega
        have hp := Lib.hid (P3.out hnone.out hq.out)
        have c49 := hr.out.t.c49
        have z49 := hr.out.t.row.fz 49
        have e1 := sd_eq2 X.sd
        have e2 := shr_eq X.sd
        have H5 := Lib.hid (hr.out.t.seed (sdN X.sd))
        have O5 := Lib.hid (own_set hr.out.o b 49 (.int .u64 (sdN X.sd : Nat)) (.inl rfl))
        clear hr
        go_wp2_with fail
        go_ret
        rw [hp.out]
        exact ⟨rfl, H5.out, O5.out⟩
      | succ gg =>
        have h8 : k < 8 := by omega
        have hlt : (k : Int) < 8 := by omega
        obtain ⟨ad', sp', lf', lv', gl', _, hix⟩ := ps_ix5 X k h8
        cases hi : X.is k with
        | false =>
          rw [hi] at hix
          have hp := Lib.hid (P2.out k h8 hnone.out hq.out (by rw [hi]; rfl))
          clear hi
          go_wp2_with fail
          go_ret
          rw [hp.out]
          exact ⟨rfl, (hr.out.below (by repeat (first | (with_reducible first | exact Below.refl _ _ | assumption | exact Nat.le_refl _ | refine Below.drew ?_ | refine Below.alloc ?_ ?_ _ | refine Below.setCell ?_ ?_ _ | refine le_alloc ?_ | refine le_set ?_ | refine le_drew ?_ | refine below_step (by assumption) ?_ ?_ | refine le_below (by assumption) ?_) | (dsimp only; omega)))).t.same, (hr.out.below (by repeat (first | (with_reducible first | exact Below.refl _ _ | assumption | exact Nat.le_refl _ | refine Below.drew ?_ | refine Below.alloc ?_ ?_ _ | refine Below.setCell ?_ ?_ _ | refine le_alloc ?_ | refine le_set ?_ | refine le_drew ?_ | refine below_step (by assumption) ?_ ?_ | refine le_below (by assumption) ?_) | (dsimp only; omega)))).o⟩
        | true =>
          rw [hi] at hix
          have HQ : Hid (∀ j, j < k + 1 → (!X.is j) = false) := fun j hj => by
            by_cases e : j = k
            · rw [e, hi]; rfl
            · exact hq.out j (by omega)
          clear hi
          go_wp2_with fail
          go_roundg gg
          case measure => omega
          exact ⟨k + 1, by omega, by push_cast; rfl, HQ.out, hr.out.below (by repeat (first | (with_reducible first | exact Below.refl _ _ | assumption | exact Nat.le_refl _ | refine Below.drew ?_ | refine Below.alloc ?_ ?_ _ | refine Below.setCell ?_ ?_ _ | refine le_alloc ?_ | refine le_set ?_ | refine le_drew ?_ | refine below_step (by assumption) ?_ ?_ | refine le_below (by assumption) ?_) | (dsimp only; omega)))⟩
end Go.Proofs.Ytdplcdgdndeopaa
