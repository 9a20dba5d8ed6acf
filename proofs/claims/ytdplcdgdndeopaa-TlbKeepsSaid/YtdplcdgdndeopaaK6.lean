/- The code's empty. -/
import Derived.Test.YtdplcdgdndeopaaQH
namespace Go.Proofs.Ytdplcdgdndeopaa
open Go.ChangeShapes Go.WideShapes Go.ChangeAt Go.RowKit Go.Sort
set_option linter.unusedVariables false
set_option linter.unusedSimpArgs false
theorem wp_store_at {P : Program} {o : Oper} {a : Act} {w : World} {K : Act → World → Prop} {Q : Exit → Act → World → Prop} (ty : TypeId) (x y : Operand) (ho : o.op = .store ty x y)
    (g off : Nat) (cells : Array Value) (hx : a.eval x = .pointer (some ⟨g, off, none⟩)) (hy : a.eval y = .agg cells)
    (t : TypeId) (old new : Array Value) (hg : w.heap[g]? = some (.cells old t (0, 0))) (hi : (P.info? ty).map (·.size) = some cells.size) (hfit : off + cells.size ≤ old.size)
    (hnew : (old.toList.take off ++ cells.toList ++ old.toList.drop (off + cells.size)).toArray = new) (h1 : cells.all (·.oneCell') = true)
    (h : K (a.put o.dst undef) (w.setRow g new)) : o.wp P a w K Q := by
  have hr := run_storeCells_at P g off t cells.toList 0 old w hg (by simpa using hfit) (fun v hv => (Array.all_eq_true_iff_forall_mem.1 h1) v (by simpa using hv))
  simp only [Nat.add_zero, Array.length_toList] at hr
  rw [hnew] at hr
  have hv : (storeVar ty ⟨g, off, none⟩ (.agg cells)).run P w = .ok () (w.setRow g new) := by
    cases hq : P.info? ty with
    | none => simp [hq] at hi
    | some i =>
      have hs : cells.size = i.size := by simp [hq] at hi; omega
      simp [storeVar, sizeOf, typeInfo, hq, Value.cells, hs, hr]
  unfold Oper.wp execOp
  simp only [ho, hx, hy, Instr.storeAt, Instr.sureAddr, Sem.run_bind, Sem.run_pure, Result.andThen_ok, hv]
  exact h
theorem own_setRow {S : Nat → Prop} {a b : World} (h : Own S a b) (g : Nat) (cs : Array Value) (hg : S g) : Own S a (b.setRow g cs) :=
  ⟨h.os, h.tape, h.output, by rw [sz_setRow]; exact h.size, fun i hi hn => by
    show (b.heap.modify g _)[i]? = _
    rw [Array.getElem?_modify, if_neg (fun e => hn (by rw [← e]; exact hg))]; exact h.block i hi hn⟩
abbrev Sb (b m : Nat) : Nat → Prop := fun k => k = b ∨ k = m
/-- What a call leaves that writes into b and m alone. -/
def RetM (b m : Nat) (X Y : St) (v : Value) (w : World) (e : Ending) (w' : World) : Prop := e = .returned v ∧ Tb b m X Y w' ∧ Own (Sb b m) w w'
theorem Tb.laid {b m : Nat} {X Y : St} {w : World} (h : Tb b m X Y w) (X' : St) : Tb b m X' Y (w.setRow b (tC X' m)) := by
  obtain ⟨D, n, hn, hm, hD⟩ := h.map
  have ho : Own (fun k => k = b) w (w.setRow b (tC X' m)) := own_setRow (Own.refl _ _) b _ rfl
  exact ⟨h.bm, by rw [sz_setRow]; exact h.lb, h.row.setRow _, D, n, hn, own_map hm ho (fun e => h.bm e.symm), hD⟩
theorem pl_one (X : St) (n : Nat) : (plV X n).all (·.oneCell') = true := by simp [plV, Value.oneCell']
theorem emS_al {X : St} (h : Al X) (n : Nat) : Al (emS X n) := fun k => by
  show (setF X.e n E0 k).ad % szN (setF X.e n E0 k).lv = 0
  by_cases e : k = n
  · rw [e, setF_at]; rfl
  · rw [setF_ne _ _ e]; exact h k
theorem w8 {p : Nat} (hp : p < 8) : (p : Int) < 8 := by omega
set_option maxRecDepth 100000 in
set_option maxHeartbeats 4000000 in
theorem empty_n (b m p : Nat) (X : St) (hX : Hid X.Ok) (hp : Hid (p < 8)) (hi : X.is p = false) (w : World) (h : Hid (Tb b m X X w)) :
    Calls Try.prog 32 #[.pointer (some ⟨b, 0, none⟩), .int .i64 (p : Nat)] w (RetM b m (emS X p) (emS X p) (.tuple #[]) w) := by
  have c0 := h.out.full hp.out
  rw [hi] at c0
  have q8 := w8 hp.out
  have hn : Hid (emS X p = X) := emS_no hX.out hi
  clear hi
  go_enter Try.func32, Try.ntmps32
  go_wp2_with (refine wpList_store_atP (fun wx => Tb b m (emS X p) X wx ∧ Own (Sb b m) w wx) rfl 56 _ _ rfl b (p * 6) #[.bool false, .int .u64 0, .int .i64 0, .int .u64 0, .bool false, .int .u64 0] rfl rfl 59 (tC X m) (tC (emS X p) m) h.out.row (info_p (S0 0) 0) (show p * 6 + 6 ≤ 50 by have := hp.out; omega) (tC_new X m p hp.out E0 false) (pl_one (S0 0) 0) ⟨h.out.laid _, own_setRow (Own.refl _ _) b _ (.inl rfl)⟩ ?_; rintro w2 h2)
  go_end0
  rw [hn.out]
  rw [hn.out] at h2
  exact ⟨rfl, h2⟩
/-- The map without a place's name. -/
theorem Tb.drop {b m : Nat} {X Y : St} {w : World} (h : Tb b m X Y w) (hY : Y.Ok) {p : Nat} (hp : p < 8) (ip : Y.is p = true) : ∃ w', (Builtin.delete_ #[54, 68] 0 #[.map (some m), keyV (Y.e p).ad (Y.e p).lv (Y.e p).gl (spN (Y.e p))]).run Try.prog w = .ok (.tuple #[]) w' ∧ Tb b m X (emS Y p) w' ∧ Own (Sb b m) w w' := by
  obtain ⟨D, n, hn, hm, hD⟩ := h.map
  have hwf := (hY.e p).wf
  obtain ⟨w', hr, h1, h2⟩ := hm.drop lawName Try.underlying54 (keyName _ (Y.e p).lv (Y.e p).gl _ hwf.ad hwf.lv (spN_lt hwf)) 0
  have hD2 := hD.empty hp ip
  have ho : Own (fun k => k = m) w w' := Own.grown h2.grown rfl
  refine ⟨w', hr, ⟨h.bm, Nat.lt_of_lt_of_le h.lb ho.size, ho.row h.row h.lb h.bm, _, _, Nat.le_refl _, ?_, hD2⟩, ho.more (fun i e => .inr e)⟩
  obtain ⟨es, clock, q1, q2, q3, q4⟩ := h1
  refine ⟨es, clock, q1, q2, ?_, q4⟩
  have e1 : Maps.size (DataW.map ((es.toList.map (WideElems.rg Try.prog 68 (plainElem Try.prog 3 : Value → Option (DU × List MemPlace)))).foldr DataW.insert [])) = es.size := by simp [Maps.size, length_sorted]
  rw [← q4] at e1
  rw [← e1]; exact Nat.le_of_eq hD2.size
set_option maxRecDepth 100000 in
set_option maxHeartbeats 4000000 in
theorem empty_y (b m p : Nat) (X : St) (hX : Hid X.Ok) (hp : Hid (p < 8)) (hi : Hid (X.is p = true)) (w : World) (h : Hid (Tb b m X X w)) :
    Calls Try.prog 32 #[.pointer (some ⟨b, 0, none⟩), .int .i64 (p : Nat)] w (RetM b m (emS X p) (emS X p) (.tuple #[]) w) := by
  have c0 := h.out.full hp.out
  rw [hi.out] at c0
  have q8 := w8 hp.out
  have c48 := cell_regrown h.out.c48
  have hent := Lib.hid (fun j hj => h.out.ent hp.out j hj)
  have hN := Lib.hid (fun u => nameOf_c (X.e p) u)
  have hD : Hid (∀ w5, Tb b m X X w5 → ∃ w', (Builtin.delete_ #[54, 68] 0 #[.map (some m), keyV (X.e p).ad (X.e p).lv (X.e p).gl (spN (X.e p))]).run Try.prog w5 = .ok (.tuple #[]) w' ∧ Tb b m X (emS X p) w' ∧ Own (Sb b m) w5 w') := fun w5 h5 => h5.drop hX.out hp.out hi.out
  generalize keyV (X.e p).ad (X.e p).lv (X.e p).gl (spN (X.e p)) = kv at hN hD
  obtain ⟨ev, hev⟩ : ∃ ev, (X.e p).v = ev := ⟨_, rfl⟩
  cases hx : X.e p with
  | mk ad lv sp gl lf =>
    rw [hx] at hent hN
    have k0 := cell_regrown (show w.cell? ⟨b, p * 6 + 1, none⟩ = some (.int .u64 (ad : Nat)) from hent.out 0 (show 0 < 5 by decide))
    have k1 := cell_regrown (show w.cell? ⟨b, p * 6 + 2, none⟩ = some (.int .i64 lv) from hent.out 1 (show 1 < 5 by decide))
    have k2 := cell_regrown (show w.cell? ⟨b, p * 6 + 3, none⟩ = some (.int .u64 (sp : Nat)) from hent.out 2 (show 2 < 5 by decide))
    have k3 := cell_regrown (show w.cell? ⟨b, p * 6 + 4, none⟩ = some (.bool gl) from hent.out 3 (show 3 < 5 by decide))
    have k4 := cell_regrown (show w.cell? ⟨b, p * 6 + 5, none⟩ = some (.int .u64 (lf : Nat)) from hent.out 4 (show 4 < 5 by decide))
    have qN : ∀ dd os, Calls Try.prog 34 #[.agg #[.int .u64 (ad : Nat), .int .i64 lv, .int .u64 (sp : Nat), .bool gl, .int .u64 (lf : Nat)]] (grow (redrawn w dd) os) fun e w'' => e = .returned kv ∧ ∃ p : Regrown, w'' = grow (redrawn w p.d) p.os := fun dd os => q_V (hN.out _)
    clear hx hent hN hev
    go_enter Try.func32, Try.ntmps32
    go_upto_region 1 with fail
    refine wp_region_below_head 12 1 #[true, true, true, true, true, true, true, true, true, true, true, true, false] (by kernel_rfl) (by kernel_rfl) rfl ?_
    simp only [List.take_succ_cons, List.take_zero]
    repeat (first
      | go_big_quiet_skip
      | (go_big_quiet_want; go_big_quiet_op; first | go_big_quiet_on | go_big_quiet_call ((go_at_call 34; exact qN _ _))))
    refine wpQuiet_nil ?_
    intro _ hw'
    obtain ⟨⟨dq, osq⟩, hw''⟩ := hw'
    subst hw''
    have hb := below_regrown w dq osq
    have HT := Lib.hid (h.out.below hb)
    have HB := Lib.hid hb
    generalize grow (redrawn w dq) osq = w5 at HT HB ⊢
    clear hb qN k0 k1 k2 k3 k4 c48 c0 h
    obtain ⟨w6, hr, h6, h6o⟩ := hD.out w5 HT.out
    have H6 := Lib.hid h6
    have O6 := Lib.hid ((Own.below HB.out (S := Sb b m)).trans h6o)
    clear h6 h6o hD HT HB
    refine wpAny_ready (rs := [12]) (by decide +kernel) (by simp) ?_
    refine AllReady.cons rfl (fun K hK => ?_) AllReady.nil
    go_simp
    refine hK _ _ ?_
    clear hK K hr
    refine wpAny_done (by decide +kernel) ?_ _
    go_wp2_with (refine wpList_store_atP (fun wx => Tb b m (emS X p) (emS X p) wx ∧ Own (Sb b m) w wx) rfl 56 _ _ rfl b (p * 6) #[.bool false, .int .u64 0, .int .i64 0, .int .u64 0, .bool false, .int .u64 0] rfl rfl 59 (tC X m) (tC (emS X p) m) H6.out.row (info_p (S0 0) 0) (show p * 6 + 6 ≤ 50 by have := hp.out; omega) (tC_new X m p hp.out E0 false) (pl_one (S0 0) 0) ⟨H6.out.laid _, own_setRow O6.out b _ (.inl rfl)⟩ ?_; rintro w9 h9)
    go_end0
    exact ⟨rfl, h9⟩
theorem empty_c (b m p : Nat) (X : St) (hX : Hid X.Ok) (hp : Hid (p < 8)) (w : World) (h : Hid (Tb b m X X w)) :
    Calls Try.prog 32 #[.pointer (some ⟨b, 0, none⟩), .int .i64 (p : Nat)] w (RetM b m (emS X p) (emS X p) (.tuple #[]) w) := by
  cases hi : X.is p with
  | false => exact empty_n b m p X hX hp hi w h
  | true => exact empty_y b m p X hX hp hi w h
end Go.Proofs.Ytdplcdgdndeopaa
