/- The walk of WalkFinds. -/
import Derived.Test.YthhlcchofilimaaGreatDoorF2
import Derived.Test.YthhlcchofilimaaGreatDoorR4
namespace Go.Proofs.YthhlcchofilimaaGreatDoor
open Go.ChangeShapes Go.WideShapes Go.ChangeAt Go.RowKit Go.Sort Y
set_option linter.unusedVariables false
set_option linter.unusedSimpArgs false

theorem gs_lt {w : World} {L : List (Nat × (Nat → Nat))} {w1 : World} (h : Gs w L w1) : ∀ p ∈ L, p.1 < w1.heap.size := fun p hp => (h.2 p hp).2.1
theorem gs_row {w : World} {L : List (Nat × (Nat → Nat))} {db : Nat} {S0 T : Nat → Nat} {w1 : World} (h : Gs w ((db, S0) :: L) w1) (hl : ∀ p ∈ L, p.1 ≠ db) : Gs w ((db, T) :: L) (w1.setRow db (cs T)) := by
  have h0 := h.2 (db, S0) (List.mem_cons_self ..)
  refine ⟨below_setRow h.1 h0.1 _, fun p hp => ?_⟩
  rcases List.mem_cons.1 hp with rfl | hp
  · exact ⟨h0.1, by rw [sz_setRow]; exact h0.2.1, h0.2.2.setRow _⟩
  · have hq := h.2 p (List.mem_cons_of_mem _ hp)
    exact ⟨hq.1, by rw [sz_setRow]; exact hq.2.1, hq.2.2.setRow_ne (hl p hp).symm _⟩
theorem gs_new {w : World} {L : List (Nat × (Nat → Nat))} {w1 : World} (h : Gs w L w1) (T : Nat → Nat) : Gs w ((w1.heap.size, T) :: L) ((w1.alloc (Obj.cells (cs Z38) 27)).setRow w1.heap.size (cs T)) :=
  gs_row h.alloc (fun p hp => Nat.ne_of_lt (gs_lt h p hp))
theorem eq_csG {ops : Array Oper} {rest : List Oper} {o : Oper} {a : Act} {w : World} {Q : Exit → Act → World → Prop} (hw : Region.wanted o (yielded ops a.tmps) = true) (x y : Operand) (t : TypeId) (ho : o.op = .binOp .eql 27 x y t) (S : Nat → Nat)
    (hx : a.eval x = .agg (cs S)) (hy : a.eval y = .agg (cs S)) (h : wpList Tryz.prog ops Q rest (a.put o.dst (.bool true)) w) : wpList Tryz.prog ops Q (o :: rest) a w :=
  wpList_step fun K hK => by
    rw [if_pos hw]
    have h2 : (execOp a.eval o).run Tryz.prog w = .ok (.value (.bool true)) w := by
      unfold execOp
      simp only [ho, hx, hy]
      rw [Sem.run_bind, binOp_eq_cs w x y S]; rfl
    unfold Oper.wp
    rw [h2]
    exact hK _ _ h
set_option maxRecDepth 100000 in
set_option maxHeartbeats 4000000 in
theorem finds_core (w : World) (ia : Option Addr) (ig io n ic : Nat) (X : Nat → Nat) (S : Nat → Nat) (m k : Int) (A : Nat) (hS : Hid (OkS S)) (hA : Hid (A < 18446744073709551616)) (hI : Hid (U.M.Byt w ia ig io n ic X)) (hG : Hid (G w)) : Calls Tryz.prog 3 #[.slice ia n ic, .agg (cs S), .int .i64 m, .int .i64 k, .int .u64 A] w (RetB true w) := by
  have HF := Lib.hid (fun u hu => fixed_w walk_ok reach_ok mode_ok allows_ok u hu)
  have HG0 : Hid (Gs w [(w.heap.size, S)] (w.alloc (Obj.cells (cs S) 27))) := ⟨(Below.refl w.heap.size w).alloc (Nat.le_refl _) _, fun p hp => by
    obtain rfl := List.mem_singleton.1 hp
    exact ⟨Nat.le_refl _, by rw [sz_alloc]; exact Nat.lt_succ_self _, row_new _ _ _⟩⟩
  obtain ⟨W0, hW0⟩ : ∃ W0, W0 = w.alloc (Obj.cells (cs S) 27) := ⟨_, rfl⟩
  rw [← hW0] at HG0
  replace hG : Hid (G W0) := g_below hG.out HG0.out.1 hG.out.1
  replace hI : Hid (U.M.Byt W0 ia ig io n ic X) := hI.out.below HG0.out.1
  have HW := Lib.hid hW0
  clear hW0
  go_enter Tryz.func3, Tryz.ntmps3
  go_upto_region 1 with fail
  rw [show w.alloc (Obj.cells (cs S) 27) = W0 from HW.out.symm]
  clear HW
  generalize hcb : w.heap.size = cb at HG0 ⊢
  have HCB := Lib.hid hcb
  clear hcb
  go_wp2_with fail
  refine (HF.out _ hG).mono ?_; rintro e w1 ⟨rfl, hb⟩
  replace hG : Hid (G w1) := g_below hG.out hb hG.out.1
  replace HG0 := Lib.hid (HG0.out.below hb)
  replace hI : Hid (U.M.Byt w1 ia ig io n ic X) := hI.out.below hb
  clear hb HF
  go_wp2_with fail
  refine (U.new_c ia ig io n ic X none 0 0 0 0 [] 0 0 0 0 none 0 0 w1 hI (Lib.hid ⟨rfl, Nat.le_refl _, fun h => absurd h (Nat.lt_irrefl _), fun i hi => absurd hi (by omega)⟩) (Lib.hid (by decide))).mono ?_
  rintro e w2 ⟨hy, hn, hb⟩
  replace hG : Hid (G w2) := g_below hG.out hb hG.out.1
  replace HG0 := Lib.hid (HG0.out.below hb)
  replace hI : Hid (U.M.Byt w2 ia ig io n ic X) := hI.out.below hb
  clear hb
  have HR := Lib.hid (U.rnew_c ia ig io n ic X none 0 0 0 0 [] 0 0 0 0 none 0 0 w2 hI (Lib.hid ⟨rfl, Nat.le_refl _, fun h => absurd h (Nat.lt_irrefl _), fun i hi => absurd hi (by omega)⟩) (Lib.hid (by decide)) (Lib.hid (fun _ e he => by cases he)))
  clear hI
  cases hok : U.okNew n [] with
  | false =>
    obtain rfl := hn hok
    rw [hok] at HR
    clear hy hn hok
    go_wp2_with fail
    refine HR.out.mono ?_
    rintro e w3 ⟨hy, hn, hb⟩
    obtain rfl := hn rfl
    replace HG0 := Lib.hid (HG0.out.below hb)
    clear hy hn hb HR
    go_wp2_with fail
    go_ret
    exact retB_mk rfl HG0.out.1
  | true =>
    obtain ⟨b, R, W, rfl, q, -⟩ := hy hok
    have HQ : Hid (BusAt b (U.Bs0 n X []) w2) := ⟨R, W, q⟩
    rw [hok] at HR
    clear hy hn q hok
    go_wp2_with fail
    refine HR.out.mono ?_
    rintro e w3 ⟨hy, hn, hb⟩
    obtain ⟨rb, R1, W1, rfl, q, -⟩ := hy rfl
    obtain ⟨mm, hm⟩ := RAt.of q
    have HM := Lib.hid hm
    replace hG : Hid (G w3) := g_below hG.out hb hG.out.1
    replace HG0 := Lib.hid (HG0.out.below hb)
    replace HQ := Lib.hid (HQ.out.below hb)
    clear hy hn hb HR q hm
    generalize U.Bs0 n X [] = B at HQ HM
    have hF := Lib.hid (busF HQ.out)
    have CW := Lib.hid (fun c u (hq : BusAt b B u) (hg : Hid (G u)) (hl : c < u.heap.size) (hr : Row u c 27 (cs S)) => walk_ok B b S c m k A u hq hS hA hg hl hr)
    have CD := Lib.hid (fun c u (hq : RAt rb mm B.F u) (hl : c < u.heap.size) (hr : Row u c 27 (cs S)) => walkr_ok B.F S rb mm c m k A u hq hF.out hS hA hl hr)
    unfold RetWk WRes.leaf at CW CD
    generalize walkF B.F S m k A = r at CW CD
    obtain ⟨adr, lev, ent, frm, cau⟩ := r
    clear hS hA hF
    have HB3 : Hid (Below w3.heap.size w3 ((w3.alloc (Obj.cells (cs Z38) 27)).setRow w3.heap.size (cs S))) := below_setRow ((Below.refl _ _).alloc (Nat.le_refl _) _) (Nat.le_refl _) _
    rw [← HCB.out] at HG0 ⊢
    go_upto_region 8 with (first | (refine wpList_load_row rfl 27 _ rfl w.heap.size rfl 27 (cs S) (0, 0) _ (HG0.out.row w.heap.size S (by simp)) Tryz.underlying27 rfl (infoS _) ?_) | (refine wpList_store_rowP (fun wx => Gs w [(w3.heap.size, S), (w.heap.size, S)] wx ∧ Below w3.heap.size w3 wx) rfl 27 _ _ rfl w3.heap.size (cs S) rfl rfl 27 (cs Z38) (row_new _ _ _) (infoS _) rfl (oneS _) ⟨gs_new HG0.out S, HB3.out⟩ ?_; rintro wd ⟨HD, hb⟩; replace HD := Lib.hid HD))
    replace hG : Hid (G wd) := g_below hG.out hb (g_lt hG.out)
    replace HQ := Lib.hid (HQ.out.below hb)
    replace HM := Lib.hid (HM.out.below hb)
    clear HG0 HB3 hb
    generalize w3.heap.size = db at HD ⊢
    clear w3
    go_wp2_with fail
    refine (CW.out db wd HQ.out hG (gs_lt HD.out (db, S) (by simp)) (HD.out.row db S (by simp))).mono ?_; rintro e w4 ⟨rfl, hb⟩
    replace HM := Lib.hid (HM.out.below hb)
    replace HD := Lib.hid (HD.out.below hb)
    clear hb CW HQ hG
    have HB4 : Hid (Below w4.heap.size w4 ((w4.alloc (Obj.cells (lf4 0 0 0 0) 41)).setRow w4.heap.size (lf4 adr lev ent frm))) := below_setRow ((Below.refl _ _).alloc (Nat.le_refl _) _) (Nat.le_refl _) _
    go_upto_region 9 with (refine wpList_store_rowP (fun wx => Row wx w4.heap.size 41 (lf4 adr lev ent frm) ∧ w4.heap.size < wx.heap.size ∧ Below w4.heap.size w4 wx) rfl 41 _ _ rfl w4.heap.size (lf4 adr lev ent frm) rfl rfl 41 (lf4 0 0 0 0) (row_new _ _ _) (info_lf _ _ _ _) rfl (one_lf _ _ _ _) ⟨(row_new _ _ _).setRow _, by rw [sz_setRow, sz_alloc]; exact Nat.lt_succ_self _, HB4.out⟩ ?_; rintro w5 ⟨h1, h2, hb⟩)
    have RL := Lib.hid h1
    have LL := Lib.hid h2
    replace HM := Lib.hid (HM.out.below hb)
    replace HD := Lib.hid (HD.out.below hb)
    clear hb HB4 h1 h2
    generalize w4.heap.size = lb at RL LL ⊢
    clear w4
    go_wp2_with fail
    refine (CD.out w.heap.size w5 HM.out (gs_lt HD.out (w.heap.size, S) (by simp)) (HD.out.row w.heap.size S (by simp))).mono ?_; rintro e w6 ⟨rfl, hb⟩
    replace HD := Lib.hid (HD.out.below hb)
    replace RL := Lib.hid (RL.out.below hb LL.out)
    replace LL : Hid (lb < w6.heap.size) := Nat.lt_of_lt_of_le LL.out hb.size
    clear hb CD HM
    have HB6 : Hid (Below w6.heap.size w6 ((w6.alloc (Obj.cells (lf4 0 0 0 0) 45)).setRow w6.heap.size (lf4 adr lev ent frm))) := below_setRow ((Below.refl _ _).alloc (Nat.le_refl _) _) (Nat.le_refl _) _
    go_upto_region 10 with (refine wpList_store_rowP (fun wx => Row wx w6.heap.size 45 (lf4 adr lev ent frm) ∧ Below w6.heap.size w6 wx) rfl 45 _ _ rfl w6.heap.size (lf4 adr lev ent frm) rfl rfl 45 (lf4 0 0 0 0) (row_new _ _ _) (info_lr _ _ _ _) rfl (one_lf _ _ _ _) ⟨(row_new _ _ _).setRow _, HB6.out⟩ ?_; rintro w7 ⟨h1, hb⟩)
    have RR := Lib.hid h1
    replace HD := Lib.hid (HD.out.below hb)
    replace RL := Lib.hid (RL.out.below hb LL.out)
    clear hb HB6 h1 LL
    generalize w6.heap.size = rl at RR ⊢
    clear w6
    go_wp2_with (first
      | (refine wpList_load_row rfl 41 _ rfl lb rfl 41 #[.int .u64 (adr : Nat), .int .i64 lev, .int .u64 (ent : Nat), .int .u64 (frm : Nat)] (0, 0) _ RL.out Tryz.underlying41 rfl (info_lf adr lev ent frm) ?_)
      | (refine wpList_load_row rfl 45 _ rfl rl rfl 45 #[.int .u64 (adr : Nat), .int .i64 lev, .int .u64 (ent : Nat), .int .u64 (frm : Nat)] (0, 0) _ RR.out Tryz.underlying45 rfl (info_lr adr lev ent frm) ?_)
      | (refine wpList_load_rowG (by kernel_rfl) 27 _ rfl db rfl 27 (cs S) (0, 0) _ (HD.out.row db S (by simp)) Tryz.underlying27 rfl (infoS _) ?_)
      | (refine wpList_load_rowG (by kernel_rfl) 27 _ rfl w.heap.size rfl 27 (cs S) (0, 0) _ (HD.out.row w.heap.size S (by simp)) Tryz.underlying27 rfl (infoS _) ?_)
      | (refine eq_csG (by kernel_rfl) _ _ _ rfl S rfl rfl ?_))
    go_ret
    exact retB_mk (by simp) HD.out.1
end Go.Proofs.YthhlcchofilimaaGreatDoor
