/- The writes that came in; what they leave. -/
import Derived.Test.YtmlbobjbkbcabaaD1
import Derived.Test.YtmlbobjbkbcabaaF2
import Derived.Test.YtmlbobjbkbcabaaQH
import Derived.Laws.BytesArg
import Derived.Deep.SlicePairs
import Derived.Deep.LoopGhost
import Derived.Deep.RegionWith
import Derived.Deep.Cut
import Derived.Deep.CutRange
import Derived.Deep.DeepCutAuto
import Derived.Deep.CutBlock
namespace Go.Proofs.Ytmlbobjbkbcabaa
open Go.ChangeShapes Go.WideShapes Go.ChangeAt Go.RowKit Go.Sort P
set_option linter.unusedVariables false
set_option linter.unusedSimpArgs false
/-- The writes in memory. -/
def Lays (w : World) (p : Option Addr) (b o N : Nat) (K : Nat → Int) (V : Nat → Nat) : Prop := (0 < N → p = some ⟨b, o, none⟩ ∧ b < w.heap.size) ∧ (∀ i, i < N → w.cell? ⟨b, o + i * 2, none⟩ = some (.int .i64 (K i)) ∧ w.cell? ⟨b, o + i * 2 + 1, none⟩ = some (.int .u64 (V i : Nat)) ∧ V i < 18446744073709551616) ∧ N ≤ 9223372036854775807
theorem Lays.below {W w : World} {p : Option Addr} {b o n : Nat} {K : Nat → Int} {V : Nat → Nat} (h : Lays W p b o n K V) (hb : Below W.heap.size W w) : Lays w p b o n K V := by
  obtain ⟨h1, h2, h3⟩ := h
  exact ⟨fun hn => ⟨(h1 hn).1, Nat.lt_of_lt_of_le (h1 hn).2 hb.size⟩, fun i hi => by
    have hn : 0 < n := by omega
    rw [hb.cell (p := ⟨b, o + i * 2, none⟩) (h1 hn).2, hb.cell (p := ⟨b, o + i * 2 + 1, none⟩) (h1 hn).2]; exact h2 i hi, h3⟩
theorem open_lays {H : Type} {enc : TypeId × Value → H} {W : World} {v : Value} {d : DataW H} {p : List MemPlace} (hv : ∃ a len cap, v = .slice a len cap) (h : DataW.Trod enc Try.prog W 0 (fun _ => true) true 34 v d p) :
    ∃ (sa : Option Addr) (b o n cap : Nat) (K : Nat → Int) (V : Nat → Nat), v = .slice sa n cap ∧ Lays W sa b o n K V := by
  obtain ⟨a0, len0, cap0, rfl⟩ := hv
  obtain ⟨fuel, hf⟩ := h
  have ce : Try.prog.cellsOf 61 = 2 := by kernel_rfl
  have ci : Try.prog.cellsOf 3 = 1 := by kernel_rfl
  have cu : Try.prog.cellsOf 22 = 1 := by kernel_rfl
  rcases Deep.open_slice Try.underlying34 hf with ⟨h0, -⟩ | ⟨a, len, cap, m, n, D, Pl, h0, hb, hl, hm, hmm, hxe, hx⟩
  · simp [Value.cells] at h0
    obtain ⟨rfl, rfl, rfl⟩ := h0
    exact ⟨_, 0, 0, 0, _, fun _ => 0, fun _ => 0, rfl, fun h => absurd h (Nat.lt_irrefl _), fun i hi => absurd hi (Nat.not_lt_zero i), by omega⟩
  · simp [Value.cells] at h0
    obtain ⟨rfl, rfl, rfl⟩ := h0
    have hcap : len0 ≤ 9223372036854775807 := by
      have : len0 ≤ maxLen := Nat.le_trans hl hm
      unfold maxLen at this
      omega
    by_cases hz : len0 = 0
    · subst hz; exact ⟨_, 0, 0, 0, _, fun _ => 0, fun _ => 0, rfl, fun h => absurd h (Nat.lt_irrefl _), fun i hi => absurd hi (Nat.not_lt_zero i), by omega⟩
    · have hlm : len0 ≤ m := by rw [hmm]; simp; omega
      have each : ∀ i, i < len0 → ∃ q : Int × Nat, W.cell? (a.add (i * 2)) = some (.int .i64 q.1) ∧ W.cell? (a.add (i * 2 + 1)) = some (.int .u64 (q.2 : Nat)) ∧ q.2 < 18446744073709551616 := by
        intro i hi
        obtain ⟨cs', h1, h2⟩ := hx i (by omega)
        rw [ce] at h1
        obtain ⟨_, hlen, hcell⟩ := World.cells?_some h1
        obtain ⟨xs, k, hk, hxy, _, hxl, hff⟩ := DataW.trod_struct Try.underlying61 h2
        match xs, hxl, cs', hlen with
        | [y0, y1], _, [v0, v1], _ =>
          have g0 := hff 0 _ rfl
          have g1 := hff 1 _ rfl
          simp [ci, cu] at g0 g1
          obtain ⟨n0, e0, -, w0⟩ := DataW.trod_int Try.underlying3 g0
          obtain ⟨n1, e1, -, w1⟩ := DataW.trod_int Try.underlying22 g1
          obtain ⟨x1, rfl, hx1⟩ := u64_of_wf w1
          have c0 := hcell 0 (by omega)
          have c1 := hcell 1 (by omega)
          rw [Deep.add_add] at c0 c1
          simp at e0 e1
          subst e0 e1
          exact ⟨(n0, x1), by simpa using c0, by simpa using c1, hx1.out⟩
      obtain ⟨q, hq⟩ := Deep.choose_lt each
      obtain ⟨ab, ao, asp⟩ := a
      have q0 := (hq 0 (by omega)).1
      have hlt : ab < W.heap.size := block_lt_of_cell q0
      have hs : asp = none := by
        cases asp with
        | none => rfl
        | some s => simp [World.cell?, Addr.add] at q0; split at q0 <;> cases q0
      subst hs
      refine ⟨_, ab, ao, len0, cap0, fun i => (q i).1, fun i => (q i).2, rfl, fun _ => ⟨rfl, hlt⟩, fun i hi => ?_, hcap⟩
      obtain ⟨h1, h2, h3⟩ := hq i hi
      rw [Go.WideShapes.add_plain] at h1 h2
      exact ⟨h1, by rw [Nat.add_assoc]; exact h2, h3⟩
theorem post_old {H : Type} {enc : TypeId × Value → H} {P : Program} {f : Func} {s : ChangeSpec} {apart fresh handsOn : Bool} {W W' : World} {args : Array Value} {v : Value} {ds gs : List (DataW H)} {before : List MemPlace}
    (hW : DataW.Whole enc P f.params.toList s.vars apart W args.toList ds gs before)
    (hr : ∀ (b : Nat) (sp : Nat → Bool) (hd : Bool), DataW.TrodAll enc P W' b sp hd f.resultTypes.toList (v.resultList f.resultTypes.size) (s.fn H (ds ++ gs)).results [])
    (ha : DataW.TrodAll enc P W' 0 (fun b => decide (b < W.heap.size)) true f.params.toList args.toList (s.fn H (ds ++ gs)).args before)
    (hv : ∀ sp : Nat → Bool, DataW.TrodVars enc P W' sp s.vars (s.fn H (ds ++ gs)).vars [])
    (hb : Below W.heap.size W W') :
    s.post enc P f apart fresh handsOn false W args v W' :=
  ⟨ds, gs, before, [], before, [], hW, hr _ _ _, ha, hv _, hb.frame _, fun h => nomatch h⟩
theorem laidOut : laidOutB Try.prog = true := by kernel_rfl
def RetH (W : World) (e : Ending) (w' : World) : Prop := ∃ S, Hid (Leg S) ∧ e = .returned (.agg (cs S)) ∧ Below W.heap.size W w'
set_option maxRecDepth 100000 in
set_option maxHeartbeats 1000000 in
theorem held_c (p : Option Addr) (b o N cap : Nat) (K : Nat → Int) (V : Nat → Nat) (w : World) (h : Hid (Lays w p b o N K V)) : Calls Try.prog 20 #[.slice p N cap] w (RetH w) := by
  go_enter Try.func20, Try.ntmps20
  go_wp2_with fail
  refine (reset_c (w.alloc (Obj.cells (cs Z38) 26))).mono ?_; rintro e w1 ⟨rfl, hb⟩
  have RR : Hid (Row w1 w.heap.size 26 (cs Z38)) := Row.below (row_new w (cs Z38) 26) hb (by rw [sz_alloc]; omega)
  have HB : Hid (Below w.heap.size w w1) := below_step hb ((Below.refl _ _).alloc (Nat.le_refl _) _) (by rw [sz_alloc]; omega)
  have HZ : Hid (w.heap.size + 1 ≤ w1.heap.size) := by have := hb.size; rw [sz_alloc] at this; exact this
  have HL : Hid (Leg rstF) := leg_rst
  clear hb
  generalize rstF = S0 at *
  have R : Hid (Row ((w1.alloc (Obj.cells (cs Z38) 26)).setRow w1.heap.size (cs S0)) w1.heap.size 26 (cs S0)) := (row_new _ _ _).setRow _
  replace RR : Hid (Row ((w1.alloc (Obj.cells (cs Z38) 26)).setRow w1.heap.size (cs S0)) w.heap.size 26 (cs Z38)) := (row_old RR.out _).setRow_ne (by have := HZ.out; omega) _
  replace HB : Hid (Below w.heap.size w ((w1.alloc (Obj.cells (cs Z38) 26)).setRow w1.heap.size (cs S0))) := below_setRow (HB.out.alloc HB.out.size _) HB.out.size _
  have HS : Hid (w.heap.size < w1.heap.size ∧ w1.heap.size < ((w1.alloc (Obj.cells (cs Z38) 26)).setRow w1.heap.size (cs S0)).heap.size) := ⟨HZ.out, by rw [sz_setRow, sz_alloc]; omega⟩
  clear HZ
  go_upto_region 3 with (refine wpList_store_row rfl 26 _ _ rfl w1.heap.size (cs S0) rfl rfl 26 (cs Z38) (row_new _ _ _) (infoS _) rfl (oneS _) ?_)
  go_loopw [4] (fun iv wr => ∃ (k : Nat) (S : Nat → Nat), k ≤ N ∧ iv = .int .i64 k ∧ Hid (Leg S) ∧ Hid (Row wr w1.heap.size 26 (cs S)) ∧ Hid (Row wr w.heap.size 26 (cs Z38)) ∧ Hid (Below w.heap.size w wr) ∧ Hid (w.heap.size < w1.heap.size ∧ w1.heap.size < wr.heap.size)) (fun iv _ => N - (intOf iv).toNat)
  case atStart => exact ⟨0, S0, Nat.zero_le _, rfl, HL, R, RR, HB, HS⟩
  case round =>
    clear HL R RR HB HS
    obtain ⟨k, S, hk, rfl, HL, R, RR, HB, HS⟩ := hrel
    have hN := h.out.2.2
    by_cases hlt : k < N
    · have hL := h.out.below HB.out
      obtain ⟨cK, cV, hv⟩ := hL.2.1 k hlt
      obtain ⟨hp, hbs⟩ := hL.1 (by omega)
      have kk : (k : Int) < N := by omega
      have kk1 : IntKind.i64.wrap ((k : Int) + 1) = (k : Int) + 1 := IntWalk.i64_in _ (by omega)
      have HVl := Lib.hid hv
      obtain ⟨x, hx⟩ : ∃ x, x = K k := ⟨_, rfl⟩
      obtain ⟨v, hv'⟩ : ∃ v, v = V k := ⟨_, rfl⟩
      rw [← hx] at cK
      rw [← hv'] at cV HVl
      have HWr : Hid (∀ u, Calls Try.prog 18 #[.agg (cs S), .int .i64 x, .int .u64 v] u (RetS (wrF S x v) u)) := fun u => write_c S x v HL.out.ok HVl.out u
      have HL2 : Hid (Leg (wrF S x v)) := leg_wr HL.out x v HVl.out
      clear hL hbs hv hx hv' HVl hN HL
      subst hp
      obtain ⟨T, eT⟩ : ∃ T, T = wrF S x v := ⟨_, rfl⟩
      rw [← eT] at HWr HL2
      clear eT
      have q1 := fun dd os => q_S (w := wr) (dd := dd) (os := os) (HWr.out _)
      have K1 := cell_regrown cK
      have K2 := cell_regrown cV
      go_upto_region 5 with fail
      refine wp_region_below_head 12 1 #[true, true, true, true, true, true, true, true, true, true, true, true, false] (by kernel_rfl) (by kernel_rfl) rfl ?_
      simp only [List.take_succ_cons, List.take_zero]
      iterate 12 (first
        | go_big_quiet_skip
        | (go_big_quiet_want; first
            | (refine quiet_load_row 26 _ rfl w1.heap.size rfl 26 (cs S) _ R.out Try.underlying26 rfl (infoS _) ?_; simp only [Act.put, List.setIfInBounds_toArray, List.set_cons_succ, List.set_cons_zero]; go_big_quiet_on)
            | (go_big_quiet_op; first | go_big_quiet_on | go_big_quiet_call ((go_at_call 18; exact q1 _ _)))))
      refine wpQuiet_nil ?_
      intro _ hw'
      obtain ⟨⟨dq, osq⟩, hw''⟩ := hw'
      subst hw''
      have hb := below_regrown wr dq osq
      replace R := Lib.hid (R.out.below hb HS.out.2)
      replace RR := Lib.hid (RR.out.below hb (by have := HS.out; omega))
      replace HB := Lib.hid (below_step hb HB.out HB.out.size)
      replace HS : Hid (w.heap.size < w1.heap.size ∧ w1.heap.size < (grow (redrawn wr dq) osq).heap.size) := ⟨HS.out.1, Nat.lt_of_lt_of_le HS.out.2 hb.size⟩
      generalize grow (redrawn wr dq) osq = w5 at *
      clear q1 K1 K2 hb cK cV
      have R6 := Lib.hid (R.out.setRow (cs T))
      have RR6 := Lib.hid (RR.out.setRow_ne (b' := w1.heap.size) (by have := HS.out; omega) (cs T))
      have HB6 : Hid (Below w.heap.size w (w5.setRow w1.heap.size (cs T))) := below_setRow HB.out (by have := HS.out; omega) _
      have HS6 : Hid (w.heap.size < w1.heap.size ∧ w1.heap.size < (w5.setRow w1.heap.size (cs T)).heap.size) := ⟨HS.out.1, by rw [sz_setRow]; exact HS.out.2⟩
      refine wpAny_ready (rs := [12]) (by decide +kernel) (by simp) ?_
      refine AllReady.cons rfl (fun K hK => ?_) AllReady.nil
      rw [if_pos (by rfl)]
      refine wp_store_row 26 _ _ rfl w1.heap.size (cs T) rfl rfl 26 (cs S) R.out (infoS _) rfl (oneS _) ?_
      refine hK _ _ ?_
      refine wpAny_done (by decide +kernel) ?_ _
      clear R RR HB HS
      go_wp2_with fail
      exact ⟨⟨k + 1, T, hlt, rfl, HL2, R6, RR6, HB6, HS6⟩, by show N - ((k : Int) + 1).toNat < N - ((k : Int)).toNat; omega⟩
    · obtain rfl : k = N := by omega
      have R6 := Lib.hid (RR.out.setRow (cs S))
      have HB6 : Hid (Below w.heap.size w (wr.setRow w.heap.size (cs S))) := below_setRow HB.out (Nat.le_refl _) _
      go_wp2_with (first | (refine wpList_load_row rfl 26 _ rfl w1.heap.size rfl 26 (cs S) (0, 0) _ R.out Try.underlying26 rfl (infoS _) ?_) | (refine wpList_store_row rfl 26 _ _ rfl w.heap.size (cs S) rfl rfl 26 (cs Z38) RR.out (infoS _) rfl (oneS _) ?_))
      refine bodyPost_ret (results_cell_row rfl _ _ w.heap.size 26 (cs S) (0, 0) _ rfl R6.out Try.underlying26 rfl (infoS _)) rfl ?_
      exact ⟨S, HL, rfl, HB6.out⟩
end Go.Proofs.Ytmlbobjbkbcabaa
