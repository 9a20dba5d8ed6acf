/- Calls upon one of several things; what the document fixes. -/
import Derived.Test.YtoicpikkcefheaaGreatBJ
import Derived.Test.YtoicpikkcefheaaGreatTS
namespace Go.Proofs.YtoicpikkcefheaaGreat
open Go.ChangeShapes Go.WideShapes Go.ChangeAt Go.RowKit Go.Sort
open M (Fp Dj Cw Up Th Grp GrpAt GrpC Cpd jn exT)
set_option linter.unusedVariables false
set_option linter.unusedSimpArgs false
set_option maxRecDepth 20000
/-- Things side by side, all newer than w0. -/
abbrev Gr (w0 : World) (l : List Th) (w : World) : Prop := Grp (fun _ _ => False) (fun _ _ => False) w0 l w
theorem gr_out {w0 w : World} {l : List Th} (h : Gr w0 l w) : Below w0.heap.size w0 w := h.out.nothing (fun _ _ q => q.elim)
section
variable {R0 W0 : Fp} {w0 w : World} {l : List Th} {b : Nat} {S : Bs}
theorem tickB (h : Grp R0 W0 w0 l w) (i : Nat) (hi : l[i]? = some (eBus b S)) (hc : -1 ≤ S.cyc ∧ S.cyc < 4611686018427387904) (hok : ∀ e ∈ S.ahead, OkE e) : Calls Tryz.prog 13 #[.pointer (some ⟨b, 0, none⟩)] w (fun e w' => e = .returned (.tuple #[]) ∧ Grp R0 W0 w0 (l.set i (eBus b S.tick)) w') :=
  h.step i hi _ (fun R W q => tick_b q (Lib.hid hc) (Lib.hid hok))
theorem readB (h : Grp R0 W0 w0 l w) (i : Nat) (hi : l[i]? = some (eBus b S)) (k : Int) (x : Nat) (z : Int) (hx : x < W64) (hz : (Lit.int .i64 z).wf = true) : Calls Tryz.prog 9 #[.pointer (some ⟨b, 0, none⟩), .int .i64 k, .int .u64 x, .int .i64 z] w (fun e w' => e = .returned (.tuple #[.int .u64 (S.val k x z : Nat), .bool (mayB k x z)]) ∧ Grp R0 W0 w0 (l.set i (eBus b (S.rd k x z))) w') :=
  h.step i hi _ (fun R W q => read_b q k x z hx hz)
theorem writeB (h : Grp R0 W0 w0 l w) (i : Nat) (hi : l[i]? = some (eBus b S)) (x v : Nat) (z : Int) (hx : x < W64) (hz : (Lit.int .i64 z).wf = true) (hv : v < W64) (hn : S.D.U.sent.length < 70368744177664) : Calls Tryz.prog 7 #[.pointer (some ⟨b, 0, none⟩), .int .u64 x, .int .i64 z, .int .u64 v] w (fun e w' => e = .returned (.bool (mayB 2 x z)) ∧ Grp R0 W0 w0 (l.set i (eBus b (S.wr x z v))) w') :=
  h.step i hi _ (fun R W q => write_b q x v z hx hz hv hn)
theorem copyB (h : Grp R0 W0 w0 l w) (i : Nat) (hi : l[i]? = some (eBus b S)) : Calls Tryz.prog 11 #[.pointer (some ⟨b, 0, none⟩)] w (fun e w' => ∃ b', e = .returned (.pointer (some ⟨b', 0, none⟩)) ∧ Grp R0 W0 w0 (l ++ [eBus b' S]) w' ∧ Below w.heap.size w w') := by
  obtain ⟨R, W, h⟩ := h
  refine (copy_b (h.each i _ hi)).mono ?_
  rintro e w' ⟨b', rfl, R', W', V, c1, c2, c3, c4, c5, c6, hb⟩
  exact ⟨b', rfl, h.copied i hi hb c1 c2 c3 c4 c5 c6, hb⟩
theorem mayQ (h : Grp R0 W0 w0 l w) (i : Nat) (hi : l[i]? = some (eBus b S)) (k : Int) (x : Nat) (z : Int) (hx : x < W64) (hz : (Lit.int .i64 z).wf = true) : Calls Tryz.prog 15 #[.pointer (some ⟨b, 0, none⟩), .int .i64 k, .int .u64 x, .int .i64 z] w (RetB (mayB k x z) w) := by
  obtain ⟨R, W, q⟩ := h.get i hi
  exact may_q q k x z hx hz
theorem plainQ (h : Grp R0 W0 w0 l w) (i : Nat) (hi : l[i]? = some (eBus b S)) (x : Nat) (z : Int) (hx : x < W64) : Calls Tryz.prog 17 #[.pointer (some ⟨b, 0, none⟩), .int .u64 x, .int .i64 z] w (RetB (M.hasV x z) w) := by
  obtain ⟨R, W, q⟩ := h.get i hi
  exact plain_q q x z hx
theorem timeQ (h : Grp R0 W0 w0 l w) (i : Nat) (hi : l[i]? = some (eBus b S)) : Calls Tryz.prog 21 #[.pointer (some ⟨b, 0, none⟩)] w (fun e w' => e = .returned (.int .u64 (S.D.t : Nat)) ∧ Below w.heap.size w w') := by
  obtain ⟨R, W, q⟩ := h.get i hi
  exact (time_q q).mono fun e w' h => ⟨h.1, by rw [h.2]; exact Below.refl _ _⟩
theorem cycleQ (h : Grp R0 W0 w0 l w) (i : Nat) (hi : l[i]? = some (eBus b S)) : Calls Tryz.prog 20 #[.pointer (some ⟨b, 0, none⟩)] w (fun e w' => e = .returned (.int .i64 S.cyc) ∧ Below w.heap.size w w') := by
  obtain ⟨R, W, q⟩ := h.get i hi
  exact (cycle_q q).mono fun e w' h => ⟨h.1, by rw [h.2]; exact Below.refl _ _⟩
theorem pendQ (h : Grp R0 W0 w0 l w) (i : Nat) (hi : l[i]? = some (eBus b S)) : Calls Tryz.prog 23 #[.pointer (some ⟨b, 0, none⟩)] w (fun e w' => e = .returned (.int .u64 (S.pend : Nat)) ∧ Below w.heap.size w w') := by
  obtain ⟨R, W, q⟩ := h.get i hi
  exact pend_b q
theorem sentQ (h : Grp R0 W0 w0 l w) (i : Nat) (hi : l[i]? = some (eBus b S)) (hn : S.D.U.sent.length < 70368744177664) : Calls Tryz.prog 22 #[.pointer (some ⟨b, 0, none⟩)] w (T.RetSl S.D.U.sent w) := by
  obtain ⟨R, W, q⟩ := h.get i hi
  exact sent_q q hn
end
def X1 : Nat → Nat := fun _ => 19
def L1 : List Ev := [⟨0, 1, 0, 97⟩, ⟨2, 2, 3, 1⟩]
def L2 : List Ev := [⟨3, 1, 0, 0⟩, ⟨2, 1, 0, 0⟩]
def F0 : Bs := Bs0 1 X1 L1
def F1 : Bs := F0.tick
def F2 : Bs := F1.rd 1 268435461 1
def F3 : Bs := F2.wr 268435456 1 72
def F4 : Bs := F3.wr 268435457 1 1
def F5 : Bs := F4.rd 1 201330688 4
theorem okF1 : okNew 1 L1 = true := by decide
theorem okF2 : okNew 0 L2 = false := by decide
theorem isE_lit {w : World} {L : List Ev} {n : Nat} {cs : Array Value} {t : TypeId} (hl : L.length = n) (hc : cs.toList = evsCells L) : IsE (w.alloc (Obj.cells cs t)) (some ⟨w.heap.size, 0, none⟩) n n w.heap.size 0 L := by
  refine ⟨hl, Nat.le_refl _, fun _ => ⟨rfl, by rw [sz_alloc]; omega⟩, fun i hi => ?_⟩
  rw [World.cell?_alloc_at _ _ _ _ rfl, Nat.zero_add, ← hc, Array.getElem?_toList]
theorem rd_0 (S : Bs) (k : Int) (h : k ≠ 1 ∧ k ≠ 2) (x : Nat) (z : Int) : S.rd k x z = S := by
  unfold Bs.rd; rw [if_neg (by rintro ⟨q, -⟩; omega)]
theorem f_vals : F1.val 0 2147483648 4 = 19 ∧ mayB 0 2147483648 4 = true ∧ F1.val 1 268435461 1 = 97 ∧ mayB 1 268435461 1 = true ∧ mayB 0 268435461 1 = false ∧ mayB 2 268435456 1 = true ∧ mayB 2 268435457 1 = true ∧ F4.val 1 201330688 4 = 2 ∧ mayB 1 201330688 4 = true := by
  refine ⟨?_, ?_, ?_, ?_, ?_, ?_, ?_, ?_, ?_⟩ <;> decide +kernel
theorem f_vals2 : F5.cyc = 0 ∧ F5.D.t = 1 ∧ F5.D.U.sent = [72] ∧ mayB 0 268435456 1 = false ∧ M.hasV 2147483648 8 = true ∧ F5.pend = 0 ∧ F0.cyc = -1 ∧ F0.ahead = L1 := by
  refine ⟨?_, ?_, ?_, ?_, ?_, ?_, ?_, ?_⟩ <;> first | rfl | decide +kernel
theorem F0_ok : ∀ e ∈ F0.ahead, OkE e := fun e he => okL_all (last := 0) (L := L1) (by decide) e (by rw [← f_vals2.2.2.2.2.2.2.2]; exact he)
theorem wf_lits : (Lit.int .i64 1).wf = true ∧ (Lit.int .i64 4).wf = true ∧ (Lit.int .i64 8).wf = true := ⟨by decide, by decide, by decide⟩
theorem sent3 : F2.D.U.sent.length < 70368744177664 ∧ F3.D.U.sent.length < 70368744177664 := by constructor <;> decide +kernel
theorem byt_lit {w : World} {L : List Nat} {n : Nat} {cs : Array Value} {t : TypeId} {X : Nat → Nat} (hc : ∀ i, i < n → cs[i]? = some (.int .u8 (X i : Nat))) (hX : ∀ i, X i < 256) : M.Byt (w.alloc (Obj.cells cs t)) (some ⟨w.heap.size, 0, none⟩) w.heap.size 0 n n X := by
  refine ⟨fun _ => ⟨rfl, by rw [sz_alloc]; omega⟩, Nat.le_refl _, fun i hi => ?_, hX⟩
  rw [World.cell?_alloc_at _ _ _ _ rfl, Nat.zero_add]; exact hc i hi
set_option maxHeartbeats 4000000 in
theorem fixed_c (w : World) : Calls Tryz.prog 4 #[] w (RetB true w) := by
  go_enter Tryz.func4, Tryz.ntmps4
  go_wp2_with fail
  have hI : M.Byt ((w.alloc (Obj.cells #[Value.int IntKind.u8 19] 5)).alloc (Obj.cells #[Value.int IntKind.i64 0, Value.int IntKind.i64 1, Value.int IntKind.i64 0, Value.int IntKind.u64 97, Value.int IntKind.i64 2, Value.int IntKind.i64 2, Value.int IntKind.i64 3, Value.int IntKind.u64 1] 38)) (some ⟨w.heap.size, 0, none⟩) w.heap.size 0 1 1 X1 :=
    (byt_lit (L := []) (fun i hi => by obtain rfl : i = 0 := by omega
                                       rfl) (fun _ => by show 19 < 256; decide)).below (below_one _ _)
  have hE : IsE ((w.alloc (Obj.cells #[Value.int IntKind.u8 19] 5)).alloc (Obj.cells #[Value.int IntKind.i64 0, Value.int IntKind.i64 1, Value.int IntKind.i64 0, Value.int IntKind.u64 97, Value.int IntKind.i64 2, Value.int IntKind.i64 2, Value.int IntKind.i64 3, Value.int IntKind.u64 1] 38)) (some ⟨w.heap.size + 1, 0, none⟩) 2 2 (w.heap.size + 1) 0 L1 := by
    have := isE_lit (w := w.alloc (Obj.cells #[Value.int IntKind.u8 19] 5)) (L := L1) (n := 2) (cs := #[Value.int IntKind.i64 0, Value.int IntKind.i64 1, Value.int IntKind.i64 0, Value.int IntKind.u64 97, Value.int IntKind.i64 2, Value.int IntKind.i64 2, Value.int IntKind.i64 3, Value.int IntKind.u64 1]) (t := 38) rfl rfl
    rw [sz_alloc] at this
    exact this
  have hbA : Below w.heap.size w ((w.alloc (Obj.cells #[Value.int IntKind.u8 19] 5)).alloc (Obj.cells #[Value.int IntKind.i64 0, Value.int IntKind.i64 1, Value.int IntKind.i64 0, Value.int IntKind.u64 97, Value.int IntKind.i64 2, Value.int IntKind.i64 2, Value.int IntKind.i64 3, Value.int IntKind.u64 1] 38)) := (below_one w _).alloc (by rw [sz_alloc]; omega) _
  generalize ((w.alloc (Obj.cells #[Value.int IntKind.u8 19] 5)).alloc (Obj.cells #[Value.int IntKind.i64 0, Value.int IntKind.i64 1, Value.int IntKind.i64 0, Value.int IntKind.u64 97, Value.int IntKind.i64 2, Value.int IntKind.i64 2, Value.int IntKind.i64 3, Value.int IntKind.u64 1] 38)) = wA at *
  refine (new_c _ _ 0 1 1 X1 _ 2 2 _ 0 L1 0 0 0 0 none 0 0 wA (Lib.hid hI) (Lib.hid hE) (Lib.hid (by decide))).mono ?_
  rintro e w1 ⟨h1, -, hb1⟩
  obtain ⟨b, R, W, rfl, q, hn⟩ := h1 okF1
  have HG : Hid (Gr w ([] ++ [eBus b F0]) w1) := Lib.hid (((grp_nil _ _ w).below hbA).push hb1 q hn)
  clear h1 q hn hb1 hI hE hbA
  have hcy := cycleQ HG.out 0 rfl
  rw [f_vals2.2.2.2.2.2.2.1] at hcy
  go_wp2_with fail
  refine hcy.mono ?_; rintro e w2 ⟨rfl, hb⟩
  replace HG : Hid (Gr w [eBus b F0] w2) := Lib.hid (HG.out.below hb)
  clear hb hcy
  go_wp2_with fail
  refine (tickB HG.out 0 rfl (by rw [f_vals2.2.2.2.2.2.2.1]; decide) F0_ok).mono ?_; rintro e w3 ⟨rfl, g⟩
  replace HG : Hid (Gr w [eBus b F1] w3) := g
  clear g
  have hr := readB HG.out 0 rfl 0 2147483648 4 (by decide) wf_lits.2.1
  rw [f_vals.1, f_vals.2.1, rd_0 F1 0 (by decide)] at hr
  go_wp2_with fail
  refine hr.mono ?_; rintro e w4 ⟨rfl, g⟩
  replace HG : Hid (Gr w [eBus b F1] w4) := g
  clear g hr
  have hr := readB HG.out 0 rfl 1 268435461 1 (by decide) wf_lits.1
  rw [f_vals.2.2.1, f_vals.2.2.2.1] at hr
  go_wp2_with fail
  refine hr.mono ?_; rintro e w5 ⟨rfl, g⟩
  replace HG : Hid (Gr w [eBus b F2] w5) := g
  clear g hr
  have hr := readB HG.out 0 rfl 0 268435461 1 (by decide) wf_lits.1
  rw [f_vals.2.2.2.2.1, rd_0 F2 0 (by decide)] at hr
  go_wp2_with fail
  refine hr.mono ?_; rintro e w6 ⟨rfl, g⟩
  replace HG : Hid (Gr w [eBus b F2] w6) := g
  clear g hr
  have hr := writeB HG.out 0 rfl 268435456 72 1 (by decide) wf_lits.1 (by decide) sent3.1
  rw [f_vals.2.2.2.2.2.1] at hr
  go_wp2_with fail
  refine hr.mono ?_; rintro e w7 ⟨rfl, g⟩
  replace HG : Hid (Gr w [eBus b F3] w7) := g
  clear g hr
  have hr := writeB HG.out 0 rfl 268435457 1 1 (by decide) wf_lits.1 (by decide) sent3.2
  rw [f_vals.2.2.2.2.2.2.1] at hr
  go_wp2_with fail
  refine hr.mono ?_; rintro e w8 ⟨rfl, g⟩
  replace HG : Hid (Gr w [eBus b F4] w8) := g
  clear g hr
  have hr := readB HG.out 0 rfl 1 201330688 4 (by decide) wf_lits.2.1
  rw [f_vals.2.2.2.2.2.2.2.1, f_vals.2.2.2.2.2.2.2.2] at hr
  go_wp2_with fail
  refine hr.mono ?_; rintro e w9 ⟨rfl, g⟩
  replace HG : Hid (Gr w [eBus b F5] w9) := g
  clear g hr
  go_wp2_with fail
  have hE : IsE (w9.alloc (Obj.cells #[Value.int IntKind.i64 3, Value.int IntKind.i64 1, Value.int IntKind.i64 0, Value.int IntKind.u64 0, Value.int IntKind.i64 2, Value.int IntKind.i64 1, Value.int IntKind.i64 0, Value.int IntKind.u64 0] 38)) (some ⟨w9.heap.size, 0, none⟩) 2 2 w9.heap.size 0 L2 := isE_lit rfl rfl
  replace HG : Hid (Gr w [eBus b F5] (w9.alloc (Obj.cells #[Value.int IntKind.i64 3, Value.int IntKind.i64 1, Value.int IntKind.i64 0, Value.int IntKind.u64 0, Value.int IntKind.i64 2, Value.int IntKind.i64 1, Value.int IntKind.i64 0, Value.int IntKind.u64 0] 38))) := Lib.hid (HG.out.below (below_one _ _))
  generalize w9.alloc (Obj.cells #[Value.int IntKind.i64 3, Value.int IntKind.i64 1, Value.int IntKind.i64 0, Value.int IntKind.u64 0, Value.int IntKind.i64 2, Value.int IntKind.i64 1, Value.int IntKind.i64 0, Value.int IntKind.u64 0] 38) = wA at *
  refine (new_c none 0 0 0 0 (fun _ => 0) _ 2 2 _ 0 L2 0 0 0 0 none 0 0 wA (Lib.hid ⟨fun h => absurd h (Nat.lt_irrefl _), Nat.le_refl _, fun i hi => absurd hi (Nat.not_lt_zero _), fun _ => (by decide : (0 : Nat) < 256)⟩) (Lib.hid hE) (Lib.hid (by decide))).mono ?_
  rintro e w10 ⟨-, h1, hb1⟩
  obtain rfl := h1 okF2
  replace HG : Hid (Gr w [eBus b F5] w10) := Lib.hid (HG.out.below hb1)
  clear h1 hb1 hE
  go_wp2_with fail
  refine (copyB HG.out 0 rfl).mono ?_; rintro e w11 ⟨b', rfl, g, -⟩
  replace HG : Hid (Gr w [eBus b F5, eBus b' F5] w11) := g
  clear g
  have hcy := cycleQ HG.out 0 rfl
  rw [f_vals2.1] at hcy
  go_wp2_with fail
  refine hcy.mono ?_; rintro e w12 ⟨rfl, hb⟩
  replace HG : Hid (Gr w [eBus b F5, eBus b' F5] w12) := Lib.hid (HG.out.below hb)
  clear hcy hb
  have ht := timeQ HG.out 0 rfl
  rw [f_vals2.2.1] at ht
  go_wp2_with fail
  refine ht.mono ?_; rintro e w13 ⟨rfl, hb⟩
  replace HG : Hid (Gr w [eBus b F5, eBus b' F5] w13) := Lib.hid (HG.out.below hb)
  clear ht hb
  have hs := sentQ HG.out 0 rfl (by rw [f_vals2.2.2.1]; decide)
  rw [f_vals2.2.2.1] at hs
  go_wp2_with fail
  refine hs.mono ?_; rintro e w14 ⟨sa, sn, sc, sg, rfl, hsl, -, hb⟩
  replace HG : Hid (Gr w [eBus b F5, eBus b' F5] w14) := Lib.hid (HG.out.below hb)
  have hcv : (convert 22 9 (.slice sa sn sc)).run Tryz.prog w14 = .ok (.string ⟨#[72]⟩) w14 := T.conv_b hsl
  clear hs hb hsl
  have hm1 := mayQ HG.out 0 rfl 2 268435456 1 (by decide) wf_lits.1
  rw [f_vals.2.2.2.2.2.1] at hm1
  go_wp2_with fail
  refine hm1.mono ?_; rintro e w15 ⟨rfl, hb⟩
  replace HG : Hid (Gr w [eBus b F5, eBus b' F5] w15) := Lib.hid (HG.out.below hb)
  clear hm1 hb hcv
  have hm1 := mayQ HG.out 0 rfl 0 268435456 1 (by decide) wf_lits.1
  rw [f_vals2.2.2.2.1] at hm1
  go_wp2_with fail
  refine hm1.mono ?_; rintro e w16 ⟨rfl, hb⟩
  replace HG : Hid (Gr w [eBus b F5, eBus b' F5] w16) := Lib.hid (HG.out.below hb)
  clear hm1 hb
  have hm1 := plainQ HG.out 0 rfl 2147483648 8 (by decide)
  rw [f_vals2.2.2.2.2.1] at hm1
  go_wp2_with fail
  refine hm1.mono ?_; rintro e w17 ⟨rfl, hb⟩
  replace HG : Hid (Gr w [eBus b F5, eBus b' F5] w17) := Lib.hid (HG.out.below hb)
  clear hm1 hb
  have ht := timeQ HG.out 1 rfl
  rw [f_vals2.2.1] at ht
  go_wp2_with fail
  refine ht.mono ?_; rintro e w18 ⟨rfl, hb⟩
  replace HG : Hid (Gr w [eBus b F5, eBus b' F5] w18) := Lib.hid (HG.out.below hb)
  clear ht hb
  have hp := pendQ HG.out 0 rfl
  rw [f_vals2.2.2.2.2.2.1] at hp
  go_wp2_with fail
  refine hp.mono ?_; rintro e w19 ⟨rfl, hb⟩
  replace HG : Hid (Gr w [eBus b F5, eBus b' F5] w19) := Lib.hid (HG.out.below hb)
  clear hp hb
  go_wp2_with fail
  go_ret
  exact retB_mk rfl (gr_out HG.out)
end Go.Proofs.YtoicpikkcefheaaGreat
