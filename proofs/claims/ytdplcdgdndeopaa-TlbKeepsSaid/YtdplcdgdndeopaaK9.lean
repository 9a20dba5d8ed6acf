/- The code's Put. -/
import Derived.Test.YtdplcdgdndeopaaK8
import Derived.Deep.RegionHeld3
namespace Go.Proofs.Ytdplcdgdndeopaa
open Go.ChangeShapes Go.WideShapes Go.ChangeAt Go.RowKit Go.Sort
set_option linter.unusedVariables false
set_option linter.unusedSimpArgs false
theorem place_no {X : St} {D : DU} (h : MapOk X D) (hX : X.Ok) {x : En} (hx : x.Wf) : ∀ k, k < 8 → X.is k = true → k ≠ (placeN X x).1 → nmL (X.e k) ≠ nmL x := by
  intro k hk hi hne e
  have hs : sameB (X.e k) x = true := (nmL_inj (hX.e k).wf hx).1 e
  unfold placeN at hne
  split at hne
  · next n hf =>
    obtain ⟨_, q2, q3, q4⟩ := fst_some hf
    simp only [Bool.and_eq_true] at q3
    have : nmL (X.e n) = nmL x := (nmL_inj (hX.e n).wf hx).2 q3.2
    exact hne (h.one hk (by omega) hi q3.1 (e.trans this.symm))
  · next hf =>
    have := fst_none hf k (Nat.zero_le _) (by omega)
    simp only [hi, hs, Bool.and_self] at this
    cases this
theorem put_lay (X : St) (x : En) (h : okP x = true) : putS X x = layS ⟨X.e, X.is, (placeN X x).2⟩ (placeN X x).1 x := by
  unfold putS layS
  rw [if_pos h]
theorem putS_al {X : St} (h : Al X) (x : En) : Al (putS X x) := by
  unfold putS
  split
  · next ho =>
    intro k
    show (setF X.e _ x k).ad % szN (setF X.e _ x k).lv = 0
    by_cases e : k = (placeN X x).1
    · rw [e, setF_at]
      unfold okP at ho
      simp only [Bool.not_eq_true', Bool.or_eq_false_iff, Bool.not_eq_false', beq_iff_eq] at ho
      exact ho.2
    · rw [setF_ne _ _ e]; exact h k
  · exact h
theorem rowx {w : World} {g : Nat} {ad sp lf : Nat} {lv : Int} {gl : Bool} (h : Row w g 33 (En.v ⟨ad, lv, sp, gl, lf⟩)) : w.cell? ⟨g, 0, none⟩ = some (.int .u64 (ad : Nat)) ∧ w.cell? ⟨g, 1, none⟩ = some (.int .i64 lv) ∧ w.cell? ⟨g, 2, none⟩ = some (.int .u64 (sp : Nat)) ∧ w.cell? ⟨g, 3, none⟩ = some (.bool gl) ∧ w.cell? ⟨g, 4, none⟩ = some (.int .u64 (lf : Nat)) := row5 h
set_option maxRecDepth 100000 in
set_option maxHeartbeats 4000000 in
theorem put_n (b m : Nat) (X : St) (ad sp lf : Nat) (lv : Int) (gl : Bool) (hx : Hid (En.Wf ⟨ad, lv, sp, gl, lf⟩)) (ho : okP ⟨ad, lv, sp, gl, lf⟩ = false) (w : World) (h : Hid (Tb b m X X w)) :
    Calls Try.prog 11 #[.pointer (some ⟨b, 0, none⟩), .agg #[.int .u64 (ad : Nat), .int .i64 lv, .int .u64 (sp : Nat), .bool gl, .int .u64 (lf : Nat)]] w (RetM b m X X (.bool false) w) := by
  obtain ⟨W0, hW0⟩ : ∃ W0, W0 = w.alloc (Obj.cells (En.v ⟨ad, lv, sp, gl, lf⟩) 33) := ⟨_, rfl⟩
  have H0 : Hid (Bx b m w.heap.size ⟨ad, lv, sp, gl, lf⟩ X X w W0) := by show Bx _ _ _ _ _ _ _ _; rw [hW0]; exact bx_new h.out
  have HW := Lib.hid hW0
  have hM := Lib.hid (fun u => may_c ⟨ad, lv, sp, gl, lf⟩ hx.out u)
  rw [ho] at hM
  replace hM : Hid (∀ u, Calls Try.prog 24 #[.agg #[.int .u64 (ad : Nat), .int .i64 lv, .int .u64 (sp : Nat), .bool gl, .int .u64 (lf : Nat)]] u (RetB false u)) := hM
  clear hW0 h ho
  go_enter Try.func11, Try.ntmps11
  go_upto_region 1 with fail
  rw [show w.alloc (Obj.cells #[.int .u64 (ad : Nat), .int .i64 lv, .int .u64 (sp : Nat), .bool gl, .int .u64 (lf : Nat)] 33) = W0 from HW.out.symm]
  clear HW
  obtain ⟨g, hg⟩ : ∃ g, w.heap.size = g := ⟨_, rfl⟩
  rw [hg] at H0 ⊢
  clear hg
  obtain ⟨k0, k1, k2, k3, k4⟩ := rowx H0.out.re
  go_wp2_with (go_at_call 24; refine (hM.out _).mono ?_; rintro e w2 ⟨rfl, hb⟩; have H2 := Lib.hid (H0.out.below hb); clear hb H0 hM k0 k1 k2 k3 k4)
  go_ret
  exact ⟨rfl, H2.out.t, H2.out.o⟩
set_option maxRecDepth 100000 in
set_option maxHeartbeats 4000000 in
theorem put_y (b m : Nat) (X : St) (hX : Hid X.Ok) (ad sp lf : Nat) (lv : Int) (gl : Bool) (hx : Hid (En.Wf ⟨ad, lv, sp, gl, lf⟩)) (ho : Hid (okP ⟨ad, lv, sp, gl, lf⟩ = true)) (w : World) (h : Hid (Tb b m X X w)) :
    Calls Try.prog 11 #[.pointer (some ⟨b, 0, none⟩), .agg #[.int .u64 (ad : Nat), .int .i64 lv, .int .u64 (sp : Nat), .bool gl, .int .u64 (lf : Nat)]] w (RetM b m (putS X ⟨ad, lv, sp, gl, lf⟩) (putS X ⟨ad, lv, sp, gl, lf⟩) (.bool true) w) := by
  obtain ⟨W0, hW0⟩ : ∃ W0, W0 = w.alloc (Obj.cells (En.v ⟨ad, lv, sp, gl, lf⟩) 33) := ⟨_, rfl⟩
  have H0 : Hid (Bx b m w.heap.size ⟨ad, lv, sp, gl, lf⟩ X X w W0) := by show Bx _ _ _ _ _ _ _ _; rw [hW0]; exact bx_new h.out
  have HW := Lib.hid hW0
  have hM := Lib.hid (fun u => may_c ⟨ad, lv, sp, gl, lf⟩ hx.out u)
  rw [ho.out] at hM
  replace hM : Hid (∀ u, Calls Try.prog 24 #[.agg #[.int .u64 (ad : Nat), .int .i64 lv, .int .u64 (sp : Nat), .bool gl, .int .u64 (lf : Nat)]] u (RetB true u)) := hM
  have hP := Lib.hid (fun u hu => placeFor_c b m X hX ad sp lf lv gl hx u (Lib.hid hu))
  obtain ⟨hp8, hs8⟩ := place_lt X hX.out ⟨ad, lv, sp, gl, lf⟩
  have hL : Hid (∀ u, Tb b m ⟨X.e, X.is, (placeN X ⟨ad, lv, sp, gl, lf⟩).2⟩ ⟨X.e, X.is, (placeN X ⟨ad, lv, sp, gl, lf⟩).2⟩ u → Calls Try.prog 25 #[.pointer (some ⟨b, 0, none⟩), .int .i64 ((placeN X ⟨ad, lv, sp, gl, lf⟩).1 : Nat), .agg #[.int .u64 (ad : Nat), .int .i64 lv, .int .u64 (sp : Nat), .bool gl, .int .u64 (lf : Nat)]] u (RetM b m (putS X ⟨ad, lv, sp, gl, lf⟩) (putS X ⟨ad, lv, sp, gl, lf⟩) (.tuple #[]) u)) := fun u hu => by
    have hX2 : St.Ok ⟨X.e, X.is, (placeN X ⟨ad, lv, sp, gl, lf⟩).2⟩ := ⟨hX.out.e, hX.out.no, hs8⟩
    obtain ⟨D, n, hn, hm, hD⟩ := h.out.map
    have hno := place_no hD hX.out hx.out
    rw [put_lay X _ ho.out]
    refine lay_c b m _ _ (Lib.hid hX2) (Lib.hid hp8) ad sp lf lv gl hx (Lib.hid fun k hk hi => ?_) u (Lib.hid hu)
    have hne : k ≠ (placeN X ⟨ad, lv, sp, gl, lf⟩).1 := fun e => by
      have hi : setF X.is (placeN X ⟨ad, lv, sp, gl, lf⟩).1 false k = true := hi
      rw [e, setF_at] at hi; cases hi
    have hi : setF X.is (placeN X ⟨ad, lv, sp, gl, lf⟩).1 false k = true := hi
    show nmL (setF X.e (placeN X ⟨ad, lv, sp, gl, lf⟩).1 E0 k) ≠ _
    rw [setF_ne _ _ hne] at hi ⊢
    exact hno k hk hi hne
  obtain ⟨p, hp⟩ : ∃ p, (placeN X ⟨ad, lv, sp, gl, lf⟩).1 = p := ⟨_, rfl⟩
  obtain ⟨X1, hX1⟩ : ∃ X1 : St, X1 = ⟨X.e, X.is, (placeN X ⟨ad, lv, sp, gl, lf⟩).2⟩ := ⟨_, rfl⟩
  rw [hp, ← hX1] at hP hL
  generalize putS X ⟨ad, lv, sp, gl, lf⟩ = X9 at hL ⊢
  clear hW0 h hp hX1 hp8 hs8
  go_enter Try.func11, Try.ntmps11
  go_upto_region 1 with fail
  rw [show w.alloc (Obj.cells #[.int .u64 (ad : Nat), .int .i64 lv, .int .u64 (sp : Nat), .bool gl, .int .u64 (lf : Nat)] 33) = W0 from HW.out.symm]
  clear HW
  obtain ⟨g, hg⟩ : ∃ g, w.heap.size = g := ⟨_, rfl⟩
  rw [hg] at H0 ⊢
  clear hg
  obtain ⟨k0, k1, k2, k3, k4⟩ := rowx H0.out.re
  go_upto_region 3 with (go_at_call 24; refine (hM.out _).mono ?_; rintro e w2 ⟨rfl, hb⟩; have H2 := Lib.hid (H0.out.below hb); clear hb H0 hM k0 k1 k2 k3 k4)
  obtain ⟨k0, k1, k2, k3, k4⟩ := rowx H2.out.re
  go_region_held3 (fun w' => w'.cell? ⟨g, 0, none⟩ = some (.int .u64 (ad : Nat)) ∧ w'.cell? ⟨g, 1, none⟩ = some (.int .i64 lv) ∧ w'.cell? ⟨g, 2, none⟩ = some (.int .u64 (sp : Nat)) ∧ w'.cell? ⟨g, 3, none⟩ = some (.bool gl) ∧ w'.cell? ⟨g, 4, none⟩ = some (.int .u64 (lf : Nat)))
    (first | exact rowx (H5.out.below (by repeat (first | (with_reducible first | exact Below.refl _ _ | assumption | exact Nat.le_refl _ | refine Below.drew ?_ | refine Below.alloc ?_ ?_ _ | refine Below.setCell ?_ ?_ _ | refine le_alloc ?_ | refine le_set ?_ | refine le_drew ?_ | refine below_step (by assumption) ?_ ?_ | refine le_below (by assumption) ?_) | (dsimp only; omega)))).re | exact rowx (H4.out.below (by repeat (first | (with_reducible first | exact Below.refl _ _ | assumption | exact Nat.le_refl _ | refine Below.drew ?_ | refine Below.alloc ?_ ?_ _ | refine Below.setCell ?_ ?_ _ | refine le_alloc ?_ | refine le_set ?_ | refine le_drew ?_ | refine below_step (by assumption) ?_ ?_ | refine le_below (by assumption) ?_) | (dsimp only; omega)))).re | exact rowx (H2.out.below (by repeat (first | (with_reducible first | exact Below.refl _ _ | assumption | exact Nat.le_refl _ | refine Below.drew ?_ | refine Below.alloc ?_ ?_ _ | refine Below.setCell ?_ ?_ _ | refine le_alloc ?_ | refine le_set ?_ | refine le_drew ?_ | refine below_step (by assumption) ?_ ?_ | refine le_below (by assumption) ?_) | (dsimp only; omega)))).re)
    (first
      | (go_at_call 26; refine (hP.out _ (H2.out.below (by repeat (first | (with_reducible first | exact Below.refl _ _ | assumption | exact Nat.le_refl _ | refine Below.drew ?_ | refine Below.alloc ?_ ?_ _ | refine Below.setCell ?_ ?_ _ | refine le_alloc ?_ | refine le_set ?_ | refine le_drew ?_ | refine below_step (by assumption) ?_ ?_ | refine le_below (by assumption) ?_) | (dsimp only; omega)))).t).mono ?_; rintro e w4 ⟨rfl, h4, h4o⟩; have H4 := Lib.hid ((H2.out.below (by repeat (first | (with_reducible first | exact Below.refl _ _ | assumption | exact Nat.le_refl _ | refine Below.drew ?_ | refine Below.alloc ?_ ?_ _ | refine Below.setCell ?_ ?_ _ | refine le_alloc ?_ | refine le_set ?_ | refine le_drew ?_ | refine below_step (by assumption) ?_ ?_ | refine le_below (by assumption) ?_) | (dsimp only; omega)))).own h4o h4); clear h4 h4o)
      | (go_at_call 25; refine (hL.out _ (H4.out.below (by repeat (first | (with_reducible first | exact Below.refl _ _ | assumption | exact Nat.le_refl _ | refine Below.drew ?_ | refine Below.alloc ?_ ?_ _ | refine Below.setCell ?_ ?_ _ | refine le_alloc ?_ | refine le_set ?_ | refine le_drew ?_ | refine below_step (by assumption) ?_ ?_ | refine le_below (by assumption) ?_) | (dsimp only; omega)))).t).mono ?_; rintro e w5 ⟨rfl, h5, h5o⟩; have H5 := Lib.hid ((H4.out.below (by repeat (first | (with_reducible first | exact Below.refl _ _ | assumption | exact Nat.le_refl _ | refine Below.drew ?_ | refine Below.alloc ?_ ?_ _ | refine Below.setCell ?_ ?_ _ | refine le_alloc ?_ | refine le_set ?_ | refine le_drew ?_ | refine below_step (by assumption) ?_ ?_ | refine le_below (by assumption) ?_) | (dsimp only; omega)))).own h5o h5); clear h5 h5o))
  go_wp2_with fail
  go_ret
  exact ⟨rfl, H5.out.t, H5.out.o⟩
theorem put_k (b m : Nat) (X : St) (hX : X.Ok) (x : En) (hx : x.Wf) (w : World) (h : Tb b m X X w) : Calls Try.prog 11 #[.pointer (some ⟨b, 0, none⟩), .agg x.v] w (RetM b m (putS X x) (putS X x) (.bool (okP x)) w) := by
  obtain ⟨ad, lv, sp, gl, lf⟩ := x
  cases ho : okP ⟨ad, lv, sp, gl, lf⟩ with
  | false =>
    have hs : putS X ⟨ad, lv, sp, gl, lf⟩ = X := by unfold putS; rw [if_neg (by rw [ho]; decide)]
    rw [hs]
    exact put_n b m X ad sp lf lv gl (Lib.hid hx) ho w (Lib.hid h)
  | true => exact put_y b m X (Lib.hid hX) ad sp lf lv gl (Lib.hid hx) (Lib.hid ho) w (Lib.hid h)
end Go.Proofs.Ytdplcdgdndeopaa
