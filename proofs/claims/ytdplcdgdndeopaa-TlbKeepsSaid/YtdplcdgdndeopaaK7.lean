/- The code's lay. -/
import Derived.Test.YtdplcdgdndeopaaK6
namespace Go.Proofs.Ytdplcdgdndeopaa
open Go.ChangeShapes Go.WideShapes Go.ChangeAt Go.RowKit Go.Sort
set_option linter.unusedVariables false
set_option linter.unusedSimpArgs false
theorem layS_em (X : St) (p : Nat) (x : En) : layS (emS X p) p x = layS X p x := by
  unfold layS emS
  rw [setF_twice, setF_twice]
/-- The map with a name more. -/
theorem Tb.put {b m : Nat} {X Y : St} {w : World} (h : Tb b m X Y w) {p : Nat} (hp : p < 8) (ip : Y.is p = false) (x : En) (hx : x.Wf) (hn : ∀ n, n < 8 → Y.is n = true → nmL (Y.e n) ≠ nmL x) : ∃ w', (Instr.mapUpdate 54 (.map (some m)) (keyV x.ad x.lv x.gl (spN x)) (.int .i64 (p : Nat))).run Try.prog w = .ok () w' ∧ Tb b m X (layS Y p x) w' ∧ Own (Sb b m) w w' := by
  obtain ⟨D, n, hle, hm, hD⟩ := h.map
  have h8 := cnt_le Y.is
  obtain ⟨w', hr, h1, h2⟩ := hm.store lawName Try.underlying54 (show n < maxLen by unfold maxLen; omega) (keyName _ x.lv x.gl _ hx.ad hx.lv (spN_lt hx)) (plainElem_int (a := (p : Int)) Try.underlying3 (by simp [Lit.wf, IntKind.min, IntKind.max, IntKind.signed, IntKind.bits]; omega))
  have hD2 := hD.lay hp ip x hn
  have ho : Own (fun k => k = m) w w' := Own.grown h2.grown rfl
  refine ⟨w', hr, ⟨h.bm, Nat.lt_of_lt_of_le h.lb ho.size, ho.row h.row h.lb h.bm, _, n + 1, ?_, h1, hD2⟩, ho.more (fun i e => .inr e)⟩
  show n + 1 ≤ cnt (setF Y.is p true)
  rw [cnt_on Y.is p hp ip]; omega
/-- A box beside a Tlb. -/
structure Bx (b m g : Nat) (x : En) (X Y : St) (w u : World) : Prop where
  re : Row u g 33 x.v
  lg : g < u.heap.size
  gb : g ≠ b
  gm : g ≠ m
  t : Tb b m X Y u
  o : Own (Sb b m) w u
theorem Bx.below {b m g : Nat} {x : En} {X Y : St} {w u u' : World} (h : Bx b m g x X Y w u) (hb : Below u.heap.size u u') : Bx b m g x X Y w u' :=
  ⟨h.re.below hb h.lg, Nat.lt_of_lt_of_le h.lg hb.size, h.gb, h.gm, h.t.below hb, h.o.trans (Own.below hb)⟩
theorem Bx.own {b m g : Nat} {x : En} {X Y X' Y' : St} {w u u' : World} (h : Bx b m g x X Y w u) (ho : Own (Sb b m) u u') (ht : Tb b m X' Y' u') : Bx b m g x X' Y' w u' :=
  ⟨ho.row h.re h.lg (fun e => e.elim h.gb h.gm), Nat.lt_of_lt_of_le h.lg ho.size, h.gb, h.gm, ht, h.o.trans ho⟩
theorem bx_new {b m : Nat} {x : En} {X Y : St} {w : World} (h : Tb b m X Y w) : Bx b m w.heap.size x X Y w (w.alloc (Obj.cells x.v 33)) := by
  have hb : Below w.heap.size w (w.alloc (Obj.cells x.v 33)) := (Below.refl _ _).alloc (Nat.le_refl _) _
  have h1 := h.lb
  have h2 := h.lm
  exact ⟨row_new _ _ _, by rw [sz_alloc]; exact Nat.lt_succ_self _, by omega, by omega, h.below hb, Own.below hb⟩
theorem pl_info (x : En) : (Try.prog.info? 56).map (·.size) = some (#[.bool true, .int .u64 (x.ad : Nat), .int .i64 x.lv, .int .u64 (x.sp : Nat), .bool x.gl, .int .u64 (x.lf : Nat)] : Array Value).size := by show _ = some 6; kernel_rfl
set_option maxRecDepth 100000 in
set_option maxHeartbeats 4000000 in
theorem lay_c (b m p : Nat) (X : St) (hX : Hid X.Ok) (hp : Hid (p < 8)) (ad sp lf : Nat) (lv : Int) (gl : Bool) (hx : Hid (En.Wf ⟨ad, lv, sp, gl, lf⟩)) (hno : Hid (∀ n, n < 8 → (emS X p).is n = true → nmL ((emS X p).e n) ≠ nmL ⟨ad, lv, sp, gl, lf⟩)) (w : World) (h : Hid (Tb b m X X w)) :
    Calls Try.prog 25 #[.pointer (some ⟨b, 0, none⟩), .int .i64 (p : Nat), .agg #[.int .u64 (ad : Nat), .int .i64 lv, .int .u64 (sp : Nat), .bool gl, .int .u64 (lf : Nat)]] w (RetM b m (layS X p ⟨ad, lv, sp, gl, lf⟩) (layS X p ⟨ad, lv, sp, gl, lf⟩) (.tuple #[]) w) := by
  have q8 := w8 hp.out
  obtain ⟨W0, hW0⟩ : ∃ W0, W0 = w.alloc (Obj.cells (En.v ⟨ad, lv, sp, gl, lf⟩) 33) := ⟨_, rfl⟩
  have H0 : Hid (Bx b m w.heap.size ⟨ad, lv, sp, gl, lf⟩ X X w W0) := by show Bx _ _ _ _ _ _ _ _; rw [hW0]; exact bx_new h.out
  have HW := Lib.hid hW0
  have hE := Lib.hid (fun u hu => empty_c b m p X hX hp u (Lib.hid hu))
  have hN := Lib.hid (fun u => nameOf_c ⟨ad, lv, sp, gl, lf⟩ u)
  have hU : Hid (∀ X' u, Tb b m X' (emS X p) u → ∃ w', (Instr.mapUpdate 54 (.map (some m)) (keyV ad lv gl (spN ⟨ad, lv, sp, gl, lf⟩)) (.int .i64 (p : Nat))).run Try.prog u = .ok () w' ∧ Tb b m X' (layS X p ⟨ad, lv, sp, gl, lf⟩) w' ∧ Own (Sb b m) u w') := fun X' u hu => by
    have := hu.put hp.out (setF_at _ _ _) ⟨ad, lv, sp, gl, lf⟩ hx.out hno.out
    rw [layS_em] at this; exact this
  have hT : Hid (tC ⟨setF (emS X p).e p ⟨ad, lv, sp, gl, lf⟩, setF (emS X p).is p true, (emS X p).sd⟩ m = tC (layS X p ⟨ad, lv, sp, gl, lf⟩) m) := congrArg (fun Z => tC Z m) (layS_em X p _)
  have hT2 := Lib.hid (tC_new (emS X p) m p hp.out ⟨ad, lv, sp, gl, lf⟩ true)
  replace hN : Hid (∀ u, Calls Try.prog 34 #[.agg #[.int .u64 (ad : Nat), .int .i64 lv, .int .u64 (sp : Nat), .bool gl, .int .u64 (lf : Nat)]] u (fun e w' => e = .returned (keyV ad lv gl (spN ⟨ad, lv, sp, gl, lf⟩)) ∧ Below u.heap.size u w')) := hN
  generalize keyV ad lv gl (spN ⟨ad, lv, sp, gl, lf⟩) = kv at hN hU
  obtain ⟨Xf, hXf⟩ : ∃ Xf, layS X p ⟨ad, lv, sp, gl, lf⟩ = Xf := ⟨_, rfl⟩
  rw [hXf] at hU hT ⊢
  clear hXf hW0 hno hx h
  go_enter Try.func25, Try.ntmps25
  go_upto_region 1 with fail
  rw [show w.alloc (Obj.cells #[.int .u64 (ad : Nat), .int .i64 lv, .int .u64 (sp : Nat), .bool gl, .int .u64 (lf : Nat)] 33) = W0 from HW.out.symm]
  clear HW
  obtain ⟨g, hg⟩ : ∃ g, w.heap.size = g := ⟨_, rfl⟩
  rw [hg] at H0 ⊢
  clear hg
  go_upto_region 2 with (go_at_call 32; refine (hE.out _ H0.out.t).mono ?_; rintro e w2 ⟨rfl, h2, h2o⟩; have H2 := Lib.hid (H0.out.own h2o h2); clear h2 h2o hE H0)
  have k0 := cell_regrown (show w2.cell? ⟨g, 0, none⟩ = some (.int .u64 (ad : Nat)) from (H2.out.re.cell 0).trans rfl)
  have k1 := cell_regrown (show w2.cell? ⟨g, 1, none⟩ = some (.int .i64 lv) from (H2.out.re.cell 1).trans rfl)
  have k2 := cell_regrown (show w2.cell? ⟨g, 2, none⟩ = some (.int .u64 (sp : Nat)) from (H2.out.re.cell 2).trans rfl)
  have k3 := cell_regrown (show w2.cell? ⟨g, 3, none⟩ = some (.bool gl) from (H2.out.re.cell 3).trans rfl)
  have k4 := cell_regrown (show w2.cell? ⟨g, 4, none⟩ = some (.int .u64 (lf : Nat)) from (H2.out.re.cell 4).trans rfl)
  refine wp_region_below_head 7 1 #[true, true, true, true, true, true, true, false] (by kernel_rfl) (by kernel_rfl) rfl ?_
  simp only [List.take_succ_cons, List.take_zero]
  repeat (first
    | go_big_quiet_skip
    | (go_big_quiet_want; go_big_quiet_op; first | go_big_quiet_on | go_big_quiet_call (fail)))
  refine wpQuiet_nil ?_
  intro _ hw'
  obtain ⟨⟨dq, osq⟩, hw''⟩ := hw'
  subst hw''
  have H3 := Lib.hid (H2.out.below (below_regrown w2 dq osq))
  generalize grow (redrawn w2 dq) osq = w3 at H3 ⊢
  clear k0 k1 k2 k3 k4 H2
  refine wpAny_ready (rs := [7]) (by decide +kernel) (by simp) ?_
  refine AllReady.cons rfl (fun K hK => ?_) AllReady.nil
  rw [if_pos (by rfl)]
  refine wp_store_at 56 _ _ rfl b (p * 6) #[.bool true, .int .u64 (ad : Nat), .int .i64 lv, .int .u64 (sp : Nat), .bool gl, .int .u64 (lf : Nat)] rfl rfl 59 (tC (emS X p) m) (tC Xf m) H3.out.t.row (pl_info ⟨ad, lv, sp, gl, lf⟩) (show p * 6 + 6 ≤ 50 by have := hp.out; omega) (hT2.out.trans hT.out) (by simp [Value.oneCell']) (hK _ _ ?_)
  clear hK K
  change wpAny _ _ _ _ _ _ (Act.put _ none undef) _
  simp only [Act.put]
  have H4 : Hid (Bx b m g ⟨ad, lv, sp, gl, lf⟩ Xf (emS X p) w (w3.setRow b (tC Xf m))) := H3.out.own (own_setRow (Own.refl _ _) b _ (.inl rfl)) (H3.out.t.laid _)
  generalize w3.setRow b (tC Xf m) = w4 at H4 ⊢
  clear H3 hT hT2
  refine wpAny_done (by decide +kernel) ?_ _
  go_upto_region 3 with fail
  have k0 := cell_regrown (show w4.cell? ⟨g, 0, none⟩ = some (.int .u64 (ad : Nat)) from (H4.out.re.cell 0).trans rfl)
  have k1 := cell_regrown (show w4.cell? ⟨g, 1, none⟩ = some (.int .i64 lv) from (H4.out.re.cell 1).trans rfl)
  have k2 := cell_regrown (show w4.cell? ⟨g, 2, none⟩ = some (.int .u64 (sp : Nat)) from (H4.out.re.cell 2).trans rfl)
  have k3 := cell_regrown (show w4.cell? ⟨g, 3, none⟩ = some (.bool gl) from (H4.out.re.cell 3).trans rfl)
  have k4 := cell_regrown (show w4.cell? ⟨g, 4, none⟩ = some (.int .u64 (lf : Nat)) from (H4.out.re.cell 4).trans rfl)
  have c48 := cell_regrown H4.out.t.c48
  have qN : ∀ dd os, Calls Try.prog 34 #[.agg #[.int .u64 (ad : Nat), .int .i64 lv, .int .u64 (sp : Nat), .bool gl, .int .u64 (lf : Nat)]] (grow (redrawn w4 dd) os) fun e w'' => e = .returned kv ∧ ∃ p : Regrown, w'' = grow (redrawn w4 p.d) p.os := fun dd os => q_V (hN.out _)
  clear hN
  refine wp_region_below_head 7 1 #[true, true, true, true, true, true, true, false] (by kernel_rfl) (by kernel_rfl) rfl ?_
  simp only [List.take_succ_cons, List.take_zero]
  repeat (first
    | go_big_quiet_skip
    | (go_big_quiet_want; go_big_quiet_op; first | go_big_quiet_on | go_big_quiet_call ((go_at_call 34; exact qN _ _))))
  refine wpQuiet_nil ?_
  intro _ hw'
  obtain ⟨⟨dq, osq⟩, hw''⟩ := hw'
  subst hw''
  have H5 := Lib.hid (H4.out.below (below_regrown w4 dq osq))
  generalize grow (redrawn w4 dq) osq = w5 at H5 ⊢
  clear qN k0 k1 k2 k3 k4 c48 H4
  obtain ⟨w6, hr, h6, h6o⟩ := hU.out _ w5 H5.out.t
  have H6 := Lib.hid (H5.out.own h6o h6)
  clear h6 h6o hU H5
  refine wpAny_ready (rs := [7]) (by decide +kernel) (by simp) ?_
  refine AllReady.cons rfl (fun K hK => ?_) AllReady.nil
  go_simp
  refine hK _ _ ?_
  clear hK K hr
  refine wpAny_done (by decide +kernel) ?_ _
  go_wp2_with fail
  go_end0
  exact ⟨rfl, H6.out.t, H6.out.o⟩
end Go.Proofs.Ytdplcdgdndeopaa
