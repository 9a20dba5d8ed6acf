/- 'fixed', from what the code's four functions do. -/
import Derived.Test.YthhlcchofilimaaGreatDoorF1
namespace Go.Proofs.YthhlcchofilimaaGreatDoor
open Go.ChangeShapes Go.WideShapes Go.ChangeAt Go.RowKit Go.Sort Y
set_option linter.unusedVariables false
set_option linter.unusedSimpArgs false
set_option maxRecDepth 100000 in
set_option maxHeartbeats 4000000 in
theorem fixed_w (hW : WalkOk) (hR : ReachOk) (hM : ModeOk) (hA : AllowsOk) (w : World) (hG : Hid (G w)) : Calls Tryz.prog 4 #[] w (RetB true w) := by
  obtain ⟨a1, a2, a3, a4, a5⟩ := f_1
  obtain ⟨b1, b2, b3, b4, b5⟩ := f_2
  obtain ⟨r1, r2⟩ := f_3
  obtain ⟨d1, d2, d3, d4, d5⟩ := f_4
  have CW1 : Hid (∀ (b c : Nat) (u : World), BusAt b BI u → Hid (G u) → c < u.heap.size → Row u c 27 (cs So) → Calls Tryz.prog 7 #[.pointer (some ⟨b, 0, none⟩), .pointer (some ⟨c, 0, none⟩), .int .i64 1, .int .i64 1, .int .u64 2149655365] u (fun e w' => e = .returned (.tuple #[.agg #[.int .u64 2149655365, .int .i64 1, .int .u64 537395407, .int .u64 2147491848], .int .u64 0]) ∧ Below u.heap.size u w')) := fun b c u q g l r => by
    have := hW BI b So c 1 1 2149655365 u q So_ok (by show _ < _; decide) g l r
    unfold RetWk WRes.leaf at this
    rw [a1, a2, a3, a4, a5] at this; exact this
  have CW2 : Hid (∀ (b c : Nat) (u : World), BusAt b BI u → Hid (G u) → c < u.heap.size → Row u c 27 (cs So) → Calls Tryz.prog 7 #[.pointer (some ⟨b, 0, none⟩), .pointer (some ⟨c, 0, none⟩), .int .i64 0, .int .i64 0, .int .u64 2149655365] u (fun e w' => e = .returned (.tuple #[.agg #[.int .u64 0, .int .i64 0, .int .u64 0, .int .u64 0], .int .u64 12]) ∧ Below u.heap.size u w')) := fun b c u q g l r => by
    have := hW BI b So c 0 0 2149655365 u q So_ok (by show _ < _; decide) g l r
    unfold RetWk WRes.leaf at this
    rw [b1, b2, b3, b4, b5] at this; exact this
  have CR : Hid (∀ (b c : Nat) (u : World), BusAt b BI u → Hid (G u) → c < u.heap.size → Row u c 27 (cs So) → Calls Tryz.prog 11 #[.pointer (some ⟨b, 0, none⟩), .pointer (some ⟨c, 0, none⟩), .int .i64 1, .int .i64 0, .int .u64 2149580800, .int .i64 2] u (RetUU 0 1 u)) := fun b c u q g l r => by
    have := hR BI b So c 1 0 2149580800 2 u q So_ok (by show _ < _; decide) wf_2 g l r
    rw [r1, r2] at this; exact this
  have CM1 : Hid (∀ (c : Nat) (u : World), c < u.heap.size → Row u c 27 (cs S3) → Calls Tryz.prog 12 #[.pointer (some ⟨c, 0, none⟩), .int .i64 3, .int .i64 1] u (RetI 1 u)) := fun c u l r => by
    have := hM S3 c 3 1 u S3_ok l r; rw [d1] at this; exact this
  have CM2 : Hid (∀ (c : Nat) (u : World), c < u.heap.size → Row u c 27 (cs S3) → Calls Tryz.prog 12 #[.pointer (some ⟨c, 0, none⟩), .int .i64 3, .int .i64 0] u (RetI 3 u)) := fun c u l r => by
    have := hM S3 c 3 0 u S3_ok l r; rw [d2] at this; exact this
  have CA1 : Hid (∀ (c : Nat) (u : World), c < u.heap.size → Row u c 27 (cs So) → Calls Tryz.prog 13 #[.pointer (some ⟨c, 0, none⟩), .int .i64 1, .int .i64 2, .int .u64 207] u (RetB true u)) := fun c u l r => by
    have := hA So c 1 2 207 u So_ok (by show _ < _; decide) l r; rw [d3] at this; exact this
  have CA2 : Hid (∀ (c : Nat) (u : World), c < u.heap.size → Row u c 27 (cs So) → Calls Tryz.prog 13 #[.pointer (some ⟨c, 0, none⟩), .int .i64 1, .int .i64 2, .int .u64 79] u (RetB false u)) := fun c u l r => by
    have := hA So c 1 2 79 u So_ok (by show _ < _; decide) l r; rw [d4] at this; exact this
  have HOK := Lib.hid d5
  clear a1 a2 a3 a4 a5 b1 b2 b3 b4 b5 r1 r2 d1 d2 d3 d4 d5 hW hR hM hA
  obtain ⟨V3, hV3⟩ : ∃ V, cs S3 = V := ⟨_, rfl⟩
  have eV3 := S3_is.symm.trans hV3
  have HI3 : Hid ((Tryz.prog.info? 27).map (·.size) = some V3.size ∧ (cs Z38).size = V3.size ∧ V3.all (·.oneCell') = true) := by rw [← hV3]; exact ⟨infoS _, rfl, oneS _⟩
  rw [hV3] at CM1 CM2
  have HV3 := Lib.hid hV3
  clear hV3
  go_enter Tryz.func4, Tryz.ntmps4
  go_upto_region 2 with (refine step_make rfl _ _ rfl 12288 (by decide) rfl rfl ?_; rintro w1 hX hb hz)
  obtain ⟨g, hg⟩ : ∃ g, g = w.heap.size := ⟨_, rfl⟩
  rw [← hg] at hX
  have HX := Lib.hid hX
  have HB : Hid (Below w.heap.size w w1) := hb
  have hgw : Hid (w.heap.size ≤ g) := Nat.le_of_eq hg.symm
  have hg1 : Hid (g < w1.heap.size) := by show _ < _; rw [hz, hg]; exact Nat.lt_succ_self _
  have hw0 : Hid (0 < w.heap.size) := hG.out.1
  replace hG : Hid (G w1) := g_below hG.out hb hG.out.1
  rw [← hg]
  clear hX hb hz hg
  go_wp2_with fail
  refine (put_1 g _ w1 HX).mono ?_; rintro e w2 ⟨rfl, hx, hr⟩
  replace HX := Lib.hid hx
  replace HB := Lib.hid (below_grown HB.out hr HB.out.size hgw.out)
  replace hG : Hid (G w2) := g_below hG.out (below_grown (Below.refl 1 w1) hr (Nat.lt_of_le_of_lt (Nat.zero_le _) hg1.out) (Nat.le_trans hw0.out hgw.out)) (Nat.le_refl _)
  replace hg1 : Hid (g < w2.heap.size) := Nat.lt_of_lt_of_le hg1.out hr.size
  clear hx hr
  go_wp2_with fail
  refine (put_2 g _ w2 HX).mono ?_; rintro e w3 ⟨rfl, hx, hr⟩
  replace HX : Hid (ByG w3 g 12288 XI) := hx
  replace HB := Lib.hid (below_grown HB.out hr HB.out.size hgw.out)
  replace hG : Hid (G w3) := g_below hG.out (below_grown (Below.refl 1 w2) hr (Nat.lt_of_le_of_lt (Nat.zero_le _) hg1.out) (Nat.le_trans hw0.out hgw.out)) (Nat.le_refl _)
  replace hg1 : Hid (g < w3.heap.size) := Nat.lt_of_lt_of_le hg1.out hr.size
  clear hx hr
  go_wp2_with fail
  refine (U.new_c (some ⟨g, 0, none⟩) g 0 12288 12288 XI none 0 0 0 0 [] 0 0 0 0 none 0 0 w3 (Lib.hid (HX.out.byt hg1.out XI_lt)) (Lib.hid ⟨rfl, Nat.le_refl _, fun h => absurd h (Nat.lt_irrefl _), fun i hi => absurd hi (by omega)⟩) (Lib.hid (by decide))).mono ?_
  rintro e w4 ⟨h1, -, hb⟩
  obtain ⟨b, R, W, rfl, q, -⟩ := h1 HOK.out
  have HQ : Hid (BusAt b BI w4) := ⟨R, W, q⟩
  replace HB := Lib.hid (below_step hb HB.out HB.out.size)
  replace hG : Hid (G w4) := g_below hG.out hb hG.out.1
  clear h1 q hb HX hg1 hgw
  go_wp2_with fail
  refine (open_c w4).mono ?_
  rintro e w5 ⟨rfl, hb⟩
  replace HQ := Lib.hid (HQ.out.below hb)
  replace HB := Lib.hid (below_step hb HB.out HB.out.size)
  replace hG : Hid (G w5) := g_below hG.out hb hG.out.1
  clear hb
  go_upto_region 8 with (refine store_rowP (fun wx => Below w5.heap.size w5 wx ∧ Row wx w5.heap.size 27 (cs So) ∧ w5.heap.size < wx.heap.size) rfl 27 _ _ rfl w5.heap.size (cs So) rfl rfl 27 (cs Z38) (row_new _ _ _) (infoS _) rfl (oneS _) ⟨below_setRow ((Below.refl _ _).alloc (Nat.le_refl _) _) (Nat.le_refl _) _, (row_new _ _ _).setRow _, by rw [sz_setRow, sz_alloc]; exact Nat.lt_succ_self _⟩ ?_; rintro w6 ⟨hb, hr, hl⟩)
  replace HQ := Lib.hid (HQ.out.below hb)
  replace HB := Lib.hid (below_step hb HB.out HB.out.size)
  replace hG : Hid (G w6) := g_below hG.out hb hG.out.1
  have RC := Lib.hid hr
  have LC := Lib.hid hl
  clear hb hr hl
  generalize w5.heap.size = cb at RC LC ⊢
  clear w5
  go_wp2_with fail
  refine (CW1.out b cb w6 HQ.out hG LC.out RC.out).mono ?_
  rintro e w7 ⟨rfl, hb⟩
  replace HQ := Lib.hid (HQ.out.below hb)
  replace HB := Lib.hid (below_step hb HB.out HB.out.size)
  replace hG : Hid (G w7) := g_below hG.out hb hG.out.1
  replace RC := Lib.hid (RC.out.below hb LC.out)
  replace LC : Hid (cb < w7.heap.size) := Nat.lt_of_lt_of_le LC.out hb.size
  clear hb CW1
  obtain ⟨w8, hw8⟩ : ∃ w8, w8 = w7.alloc (Obj.cells #[.int .u64 2149655365, .int .i64 1, .int .u64 537395407, .int .u64 2147491848] 41) := ⟨_, rfl⟩
  have hb : Below w7.heap.size w7 w8 := by rw [hw8]; exact (Below.refl _ _).alloc (Nat.le_refl _) _
  have RL : Hid (Row w8 w7.heap.size 41 #[.int .u64 2149655365, .int .i64 1, .int .u64 537395407, .int .u64 2147491848]) := by show Row _ _ _ _; rw [hw8]; exact row_new _ _ _
  have LL : Hid (w7.heap.size < w8.heap.size) := by show _ < _; rw [hw8, sz_alloc]; exact Nat.lt_succ_self _
  have HW8 := Lib.hid hw8
  replace HQ := Lib.hid (HQ.out.below hb)
  replace HB := Lib.hid (below_step hb HB.out HB.out.size)
  replace hG : Hid (G w8) := g_below hG.out hb hG.out.1
  replace RC := Lib.hid (RC.out.below hb LC.out)
  replace LC : Hid (cb < w8.heap.size) := Nat.lt_of_lt_of_le LC.out hb.size
  clear hb hw8
  go_upto_region 9 with fail
  rw [show w7.alloc (Obj.cells #[.int .u64 2149655365, .int .i64 1, .int .u64 537395407, .int .u64 2147491848] 41) = w8 from HW8.out.symm]
  clear HW8
  generalize w7.heap.size = lb at RL LL ⊢
  clear w7
  go_wp2_with fail
  refine (CW2.out b cb w8 HQ.out hG LC.out RC.out).mono ?_
  rintro e w9 ⟨rfl, hb⟩
  replace HQ := Lib.hid (HQ.out.below hb)
  replace HB := Lib.hid (below_step hb HB.out HB.out.size)
  replace hG : Hid (G w9) := g_below hG.out hb hG.out.1
  replace RC := Lib.hid (RC.out.below hb LC.out)
  replace LC : Hid (cb < w9.heap.size) := Nat.lt_of_lt_of_le LC.out hb.size
  replace RL := Lib.hid (RL.out.below hb LL.out)
  replace LL : Hid (lb < w9.heap.size) := Nat.lt_of_lt_of_le LL.out hb.size
  clear hb CW2
  obtain ⟨w10, hw10⟩ : ∃ w10, w10 = w9.alloc (Obj.cells #[.int .u64 0, .int .i64 0, .int .u64 0, .int .u64 0] 41) := ⟨_, rfl⟩
  have hb : Below w9.heap.size w9 w10 := by rw [hw10]; exact (Below.refl _ _).alloc (Nat.le_refl _) _
  have HW10 := Lib.hid hw10
  replace HQ := Lib.hid (HQ.out.below hb)
  replace HB := Lib.hid (below_step hb HB.out HB.out.size)
  replace hG : Hid (G w10) := g_below hG.out hb hG.out.1
  replace RC := Lib.hid (RC.out.below hb LC.out)
  replace LC : Hid (cb < w10.heap.size) := Nat.lt_of_lt_of_le LC.out hb.size
  replace RL := Lib.hid (RL.out.below hb LL.out)
  replace LL : Hid (lb < w10.heap.size) := Nat.lt_of_lt_of_le LL.out hb.size
  clear hb hw10
  go_upto_region 10 with fail
  rw [show w9.alloc (Obj.cells #[.int .u64 0, .int .i64 0, .int .u64 0, .int .u64 0] 41) = w10 from HW10.out.symm]
  clear HW10
  go_wp2_with fail
  refine (CR.out b cb w10 HQ.out hG LC.out RC.out).mono ?_
  rintro e w11 ⟨rfl, hb⟩
  replace HQ := Lib.hid (HQ.out.below hb)
  replace HB := Lib.hid (below_step hb HB.out HB.out.size)
  replace hG : Hid (G w11) := g_below hG.out hb hG.out.1
  replace RC := Lib.hid (RC.out.below hb LC.out)
  replace LC : Hid (cb < w11.heap.size) := Nat.lt_of_lt_of_le LC.out hb.size
  replace RL := Lib.hid (RL.out.below hb LL.out)
  replace LL : Hid (lb < w11.heap.size) := Nat.lt_of_lt_of_le LL.out hb.size
  clear hb CR
  go_upto_region 12 with (refine store_rowP (fun wx => Below w11.heap.size w11 wx ∧ Row wx w11.heap.size 27 V3 ∧ w11.heap.size < wx.heap.size) rfl 27 _ _ rfl w11.heap.size V3 rfl rfl 27 (cs Z38) (row_new _ _ _) HI3.out.1 HI3.out.2.1 HI3.out.2.2 ⟨below_setRow ((Below.refl _ _).alloc (Nat.le_refl _) _) (Nat.le_refl _) _, (row_new _ _ _).setRow _, by rw [sz_setRow, sz_alloc]; exact Nat.lt_succ_self _⟩ ?_; rintro w12 ⟨hb, hr, hl⟩)
  replace HQ := Lib.hid (HQ.out.below hb)
  replace HB := Lib.hid (below_step hb HB.out HB.out.size)
  replace hG : Hid (G w12) := g_below hG.out hb hG.out.1
  replace RC := Lib.hid (RC.out.below hb LC.out)
  replace LC : Hid (cb < w12.heap.size) := Nat.lt_of_lt_of_le LC.out hb.size
  replace RL := Lib.hid (RL.out.below hb LL.out)
  replace LL : Hid (lb < w12.heap.size) := Nat.lt_of_lt_of_le LL.out hb.size
  have RD := Lib.hid hr
  have LD := Lib.hid hl
  clear hb hr hl HQ
  generalize w11.heap.size = db at RD LD ⊢
  have l0 : w12.cell? ⟨lb, 0, none⟩ = some (.int .u64 2149655365) := RL.out.cell 0
  have l1 : w12.cell? ⟨lb, 1, none⟩ = some (.int .i64 1) := RL.out.cell 1
  have l2 : w12.cell? ⟨lb, 2, none⟩ = some (.int .u64 537395407) := RL.out.cell 2
  have l3 : w12.cell? ⟨lb, 3, none⟩ = some (.int .u64 2147491848) := RL.out.cell 3
  go_wp2_with fail
  refine (CM1.out db w12 LD.out RD.out).mono ?_
  rintro e w13 ⟨rfl, hb⟩
  replace HB := Lib.hid (below_step hb HB.out HB.out.size)
  replace RC := Lib.hid (RC.out.below hb LC.out)
  replace LC : Hid (cb < w13.heap.size) := Nat.lt_of_lt_of_le LC.out hb.size
  replace RD := Lib.hid (RD.out.below hb LD.out)
  replace LD : Hid (db < w13.heap.size) := Nat.lt_of_lt_of_le LD.out hb.size
  clear hb CM1 l0 l1 l2 l3
  go_wp2_with fail
  refine (CM2.out db w13 LD.out RD.out).mono ?_
  rintro e w14 ⟨rfl, hb⟩
  replace HB := Lib.hid (below_step hb HB.out HB.out.size)
  replace RC := Lib.hid (RC.out.below hb LC.out)
  replace LC : Hid (cb < w14.heap.size) := Nat.lt_of_lt_of_le LC.out hb.size
  replace RD := Lib.hid (RD.out.below hb LD.out)
  replace LD : Hid (db < w14.heap.size) := Nat.lt_of_lt_of_le LD.out hb.size
  clear hb CM2
  go_wp2_with fail
  refine (CA1.out cb w14 LC.out RC.out).mono ?_
  rintro e w15 ⟨rfl, hb⟩
  replace HB := Lib.hid (below_step hb HB.out HB.out.size)
  replace RC := Lib.hid (RC.out.below hb LC.out)
  replace LC : Hid (cb < w15.heap.size) := Nat.lt_of_lt_of_le LC.out hb.size
  replace RD := Lib.hid (RD.out.below hb LD.out)
  replace LD : Hid (db < w15.heap.size) := Nat.lt_of_lt_of_le LD.out hb.size
  clear hb CA1
  go_wp2_with fail
  refine (CA2.out cb w15 LC.out RC.out).mono ?_
  rintro e w16 ⟨rfl, hb⟩
  replace HB := Lib.hid (below_step hb HB.out HB.out.size)
  replace RC := Lib.hid (RC.out.below hb LC.out)
  replace LC : Hid (cb < w16.heap.size) := Nat.lt_of_lt_of_le LC.out hb.size
  replace RD := Lib.hid (RD.out.below hb LD.out)
  replace LD : Hid (db < w16.heap.size) := Nat.lt_of_lt_of_le LD.out hb.size
  clear hb CA2
  go_wp2_with fail
  go_ret
  exact retB_mk rfl HB.out
end Go.Proofs.YthhlcchofilimaaGreatDoor
