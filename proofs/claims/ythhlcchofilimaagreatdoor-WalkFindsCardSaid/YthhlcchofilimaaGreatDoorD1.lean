/- What the landed code's four functions do. -/
import Derived.Test.YthhlcchofilimaaGreatDoorL4
namespace Go.Proofs.YthhlcchofilimaaGreatDoor
open Go.ChangeShapes Go.WideShapes Go.ChangeAt Go.RowKit Go.Sort Y
set_option linter.unusedVariables false
set_option linter.unusedSimpArgs false

theorem busF {b : Nat} {B : U.Bs} {w : World} (h : BusAt b B w) : ∀ i, B.F i < 256 := by
  obtain ⟨R, W, q⟩ := h
  obtain ⟨m, c, p, u, v, g, h5, h6⟩ := U.bus_open q
  obtain ⟨_, _, q1⟩ := g.get 2 rfl
  exact q1.2
theorem rdV_lt {F : Nat → Nat} (h : ∀ i, F i < 256) (x : Nat) (z : Int) : U.M.readV F x z < 18446744073709551616 := by
  unfold U.M.readV
  split
  · exact U.M.numR_lt _ (fun i => by unfold U.M.rB; split; exact h _; decide) 8
  · decide
theorem frm_lt (L t x : Nat) (ht : t < 17592186044416) : fromN L t x < 18446744073709551616 := by
  unfold fromN
  have : x / 2 ^ (12 + 9 * L) % 512 < 512 := Nat.mod_lt _ (by decide)
  omega
theorem nxt_lt (e : Nat) : nextN e < 17592186044416 := Nat.mod_lt _ (by decide)
set_option maxRecDepth 100000 in
theorem walk_m3 (b c x : Nat) (k : Int) (w : World) : Calls Tryz.prog 7 #[.pointer (some ⟨b, 0, none⟩), .pointer (some ⟨c, 0, none⟩), .int .i64 3, .int .i64 k, .int .u64 x] w (RetWk ⟨x, -1, 0, 0, 0⟩ w) := by
  obtain ⟨W0, hW0⟩ : ∃ W0, W0 = w.alloc (Obj.cells (lf4 0 0 0 0) 41) := ⟨_, rfl⟩
  have HB : Hid (Below w.heap.size w W0) := by show Below _ _ _; rw [hW0]; exact (Below.refl _ _).alloc (Nat.le_refl _) _
  have RL : Hid (Row W0 w.heap.size 41 (lf4 0 0 0 0)) := by show Row _ _ _ _; rw [hW0]; exact row_new _ _ _
  have HW := Lib.hid hW0
  clear hW0
  go_enter Tryz.func7, Tryz.ntmps7
  go_wp2_with fail
  rw [show w.alloc (Obj.cells #[.int .u64 0, .int .i64 0, .int .u64 0, .int .u64 0] 41) = W0 from HW.out.symm]
  clear HW
  go_step3
  go_wp2_with (refine wpList_store_rowP (fun wx => Below w.heap.size w wx ∧ Row wx w.heap.size 41 (lf4 x (-1) 0 0)) rfl 41 _ _ rfl w.heap.size (lf4 x (-1) 0 0) rfl rfl 41 (lf4 0 0 0 0) RL.out (info_lf _ _ _ _) rfl (one_lf _ _ _ _) ⟨below_setRow HB.out (Nat.le_refl _) _, RL.out.setRow _⟩ ?_; rintro wz ⟨hb2, hr2⟩)
  (try simp only [Exit.inBlock, Exit.then]); (try rw [Exit.noGoto_ret]); (try simp only [Exit.inBlock, Exit.then])
  refine bodyPost_ret (results_row2 rfl _ _ w.heap.size 41 (lf4 x (-1) 0 0) (0, 0) _ rfl hr2 Tryz.underlying41 rfl (info_lf _ _ _ _)) rfl ?_
  exact ⟨rfl, hb2⟩
theorem walk_ok : WalkOk := fun B b S c m k x w hq hS hx hG hc hr => by
  have hF := busF hq
  by_cases h3 : m = 3
  · subst h3
    have e : walkF B.F S 3 k x = ⟨x, -1, 0, 0, 0⟩ := by unfold walkF; rw [if_pos (Or.inl rfl)]
    rw [e]; exact walk_m3 b c x k w
  have m3 : (m == 3) = false := by simpa using h3
  have bt : S 20 % 2 ^ 44 < 17592186044416 := Nat.mod_lt _ (by decide)
  obtain ⟨t2, ht2⟩ : ∃ t, t = S 20 % 2 ^ 44 := ⟨_, rfl⟩
  rw [← ht2] at bt
  have key : ∀ L t, t < 17592186044416 → ∃ z ok, z < 18446744073709551616 ∧ (∀ u, BusAt b B u → Hid (G u) → c < u.heap.size → Row u c 27 (cs S) → Calls Tryz.prog 30 #[.pointer (some ⟨b, 0, none⟩), .pointer (some ⟨c, 0, none⟩), .int .u64 (fromN L t x : Nat)] u (RetRE z ok u)) ∧
      ∀ next, stepW B.F S m k x L t next = cond ok (cond (brkB z) (noW (pageN k)) (cond (leafB z) (cond (permB S m k z) (cond (decide (4096 * nextN z % 2 ^ (12 + 9 * L) = 0)) ⟨4096 * nextN z + x % 2 ^ (12 + 9 * L), L, z, fromN L t x, 0⟩ (noW (pageN k))) (noW (pageN k))) (next (nextN z)))) (noW (faultN k)) := fun L t ht => by
    refine ⟨if (chkB (cfO S) (adO S) 1 1 (fromN L t x) 8 && U.M.hasV (fromN L t x) 8) = true then U.M.readV B.F (fromN L t x) 8 else 0, (chkB (cfO S) (adO S) 1 1 (fromN L t x) 8 && U.M.hasV (fromN L t x) 8), ?_, ?_, ?_⟩
    · split
      · exact rdV_lt hF _ _
      · decide
    · exact fun u q g l r => readEntry_c B b S c (fromN L t x) u (Lib.hid q) hS (Lib.hid (frm_lt L t x ht)) g (Lib.hid l) (Lib.hid r)
    · exact fun next => step_is _ _ _ _ _ _ _ next _ _ rfl rfl
  obtain ⟨z2, ok2, b2, R2, E2⟩ := key 2 t2 bt
  obtain ⟨z1, ok1, b1, R1, E1⟩ := key 1 (nextN z2) (nxt_lt _)
  obtain ⟨z0, ok0, b0, R0, E0⟩ := key 0 (nextN z1) (nxt_lt _)
  refine walk_core B S b c x m k (pageN k) (faultN k) t2 z2 (fromN 2 t2 x) (4096 * nextN z2 + x % 2 ^ (12 + 9 * 2)) (nextN z2) z1 (fromN 1 (nextN z2) x) (4096 * nextN z1 + x % 2 ^ (12 + 9 * 1)) (nextN z1) z0 (fromN 0 (nextN z1) x) (4096 * nextN z0 + x % 2 ^ (12 + 9 * 0)) (nextN z0)
    (decide (S 20 / 2 ^ 60 = 8)) (!decide (x / 2 ^ 38 ≠ 0 ∧ x / 2 ^ 38 ≠ 67108863)) ok2 (brkB z2) (leafB z2) (permB S m k z2) (decide (4096 * nextN z2 % 2 ^ (12 + 9 * 2) = 0)) ok1 (brkB z1) (leafB z1) (permB S m k z1) (decide (4096 * nextN z1 % 2 ^ (12 + 9 * 1) = 0)) ok0 (brkB z0) (leafB z0) (permB S m k z0) (decide (4096 * nextN z0 % 2 ^ (12 + 9 * 0) = 0))
    (walkF B.F S m k x) (stepW B.F S m k x 2 t2 (fun t => stepW B.F S m k x 1 t (fun t => stepW B.F S m k x 0 t (fun _ => noW (pageN k))))) (stepW B.F S m k x 1 (nextN z2) (fun t => stepW B.F S m k x 0 t (fun _ => noW (pageN k)))) (stepW B.F S m k x 0 (nextN z1) (fun _ => noW (pageN k))) m3
    (Lib.hid fun u r => translates_c S c hS u ((r.cell 20).trans rfl)) (Lib.hid fun u r => by rw [ht2]; exact firstTable_c S c hS u ((r.cell 20).trans rfl)) (Lib.hid fun u => pageFault_c k u) (Lib.hid fun u => accessFault_c k u) (Lib.hid fun u => isVirtual_c x hx u)
    (Lib.hid fun u => entryPlace_2 t2 x (Lib.hid bt) hx u) (Lib.hid R2) (Lib.hid fun u => pageOf_c z2 (Lib.hid b2) u) (Lib.hid fun u => isBroken_c z2 (Lib.hid b2) u) (Lib.hid fun u => isLeaf_c z2 (Lib.hid b2) u) (Lib.hid fun u r => allows_c S c m k z2 u hS (Lib.hid b2) ((r.cell 0).trans rfl)) (Lib.hid fun u => begins_2 (nextN z2) (Lib.hid (nxt_lt _)) u) (Lib.hid fun u => address_2 (nextN z2) x (Lib.hid (nxt_lt _)) hx u) (Lib.hid (E2 _))
    (Lib.hid fun u => entryPlace_1 (nextN z2) x (Lib.hid (nxt_lt _)) hx u) (Lib.hid R1) (Lib.hid fun u => pageOf_c z1 (Lib.hid b1) u) (Lib.hid fun u => isBroken_c z1 (Lib.hid b1) u) (Lib.hid fun u => isLeaf_c z1 (Lib.hid b1) u) (Lib.hid fun u r => allows_c S c m k z1 u hS (Lib.hid b1) ((r.cell 0).trans rfl)) (Lib.hid fun u => begins_1 (nextN z1) (Lib.hid (nxt_lt _)) u) (Lib.hid fun u => address_1 (nextN z1) x (Lib.hid (nxt_lt _)) hx u) (Lib.hid (E1 _))
    (Lib.hid fun u => entryPlace_0 (nextN z1) x (Lib.hid (nxt_lt _)) hx u) (Lib.hid R0) (Lib.hid fun u => pageOf_c z0 (Lib.hid b0) u) (Lib.hid fun u => isBroken_c z0 (Lib.hid b0) u) (Lib.hid fun u => isLeaf_c z0 (Lib.hid b0) u) (Lib.hid fun u r => allows_c S c m k z0 u hS (Lib.hid b0) ((r.cell 0).trans rfl)) (Lib.hid fun u => begins_0 (nextN z0) (Lib.hid (nxt_lt _)) u) (Lib.hid fun u => address_0 (nextN z0) x (Lib.hid (nxt_lt _)) hx u) (Lib.hid (E0 _))
    (Lib.hid ?_) w hq hG hc hr
  unfold walkF
  rw [ht2]
  by_cases hs : S 20 / 2 ^ 60 = 8
  · rw [if_neg (fun h => h.elim h3 (fun h => h hs)), decide_eq_true hs]
    by_cases hv : x / 2 ^ 38 ≠ 0 ∧ x / 2 ^ 38 ≠ 67108863
    · rw [if_pos hv, decide_eq_true hv]; rfl
    · rw [if_neg hv, decide_eq_false hv]; rfl
  · rw [if_pos (Or.inr hs), decide_eq_false hs]; rfl
theorem stp_lt (F S : Nat → Nat) (m k : Int) (x L t : Nat) (next : Nat → WRes) (hL : L ≤ 2) (hn : ∀ t, (next t).adr < 18446744073709551616) : (stepW F S m k x L t next).adr < 18446744073709551616 := by
  unfold stepW
  repeat' split
  all_goals first
    | exact hn _
    | (show (0 : Nat) < _; decide)
    | (show 4096 * nextN _ + x % 2 ^ (12 + 9 * L) < _
       have h1 := nxt_lt (U.M.readV F (fromN L t x) 8)
       have h2 : x % 2 ^ (12 + 9 * L) < 2 ^ (12 + 9 * L) := Nat.mod_lt _ (Nat.pow_pos (by decide))
       have h3 : 2 ^ (12 + 9 * L) ≤ 2 ^ 30 := Nat.pow_le_pow_right (by decide) (by omega)
       generalize x % 2 ^ (12 + 9 * L) = y at *
       have : y < 1073741824 := by omega
       omega)
theorem wlk_lt (F S : Nat → Nat) (m k : Int) (x : Nat) (hx : x < 18446744073709551616) : (walkF F S m k x).adr < 18446744073709551616 := by
  unfold walkF
  split
  · exact hx
  split
  · show (0 : Nat) < _; decide
  exact stp_lt _ _ _ _ _ _ _ _ (by decide) fun t => stp_lt _ _ _ _ _ _ _ _ (by decide) fun t => stp_lt _ _ _ _ _ _ _ _ (by decide) fun t => by show (0 : Nat) < _; decide
set_option maxRecDepth 100000 in
set_option maxHeartbeats 4000000 in
theorem reach_core (B : U.Bs) (S : Nat → Nat) (b c x adr ent frm cau ft : Nat) (m k mm lev z : Int) (k1 k2 : Bool) (R1 R2 : Nat) (hcau : cau = 0 ∨ ((cau : Int) != 0) = true)
    (CM : Hid (∀ u, c < u.heap.size → Row u c 27 (cs S) → Calls Tryz.prog 12 #[.pointer (some ⟨c, 0, none⟩), .int .i64 m, .int .i64 k] u (RetI mm u)))
    (CW : Hid (∀ u, BusAt b B u → Hid (G u) → c < u.heap.size → Row u c 27 (cs S) → Calls Tryz.prog 7 #[.pointer (some ⟨b, 0, none⟩), .pointer (some ⟨c, 0, none⟩), .int .i64 mm, .int .i64 k, .int .u64 x] u (fun e w' => e = .returned (.tuple #[.agg (lf4 adr lev ent frm), .int .u64 cau]) ∧ Below u.heap.size u w')))
    (CK : Hid (∀ u, Hid (G u) → Calls Tryz.prog 45 #[.agg (u8s (cfO S)), .agg (u64s (adO S)), .int .i64 mm, .int .i64 k, .int .u64 adr, .int .i64 z] u (RetB k1 u)))
    (CY : Hid (∀ u, BusAt b B u → Calls Tryz.prog 46 #[.pointer (some ⟨b, 0, none⟩), .int .i64 k, .int .u64 adr, .int .i64 z] u (RetB k2 u)))
    (CX : Hid (∀ u, Calls Tryz.prog 31 #[.int .i64 k] u (RetUX ft u)))
    (E1 : Hid (cau ≠ 0 → R1 = 0 ∧ R2 = cau)) (E2 : Hid (cau = 0 → (k1 && k2) = true → R1 = adr ∧ R2 = 0)) (E3 : Hid (cau = 0 → (k1 && k2) = false → R1 = 0 ∧ R2 = ft))
    (w : World) (hq : BusAt b B w) (hG : Hid (G w)) (hc : c < w.heap.size) (hr : Row w c 27 (cs S)) :
    Calls Tryz.prog 11 #[.pointer (some ⟨b, 0, none⟩), .pointer (some ⟨c, 0, none⟩), .int .i64 m, .int .i64 k, .int .u64 x, .int .i64 z] w (RetUU R1 R2 w) := by
  have HQ := Lib.hid hq
  have RC := Lib.hid hr
  have LC := Lib.hid hc
  have HB : Hid (Below w.heap.size w w) := Below.refl _ _
  clear hr hc hq
  go_enter Tryz.func11, Tryz.ntmps11
  go_wp2_with fail
  refine (CM.out _ LC.out RC.out).mono ?_; rintro e w1 ⟨rfl, hb⟩
  replace HB := Lib.hid (below_step hb HB.out HB.out.size)
  replace HQ := Lib.hid (HQ.out.below hb)
  replace hG : Hid (G w1) := g_below hG.out hb (g_lt hG.out)
  replace RC := Lib.hid (RC.out.below hb LC.out)
  replace LC : Hid (c < w1.heap.size) := Nat.lt_of_lt_of_le LC.out hb.size
  clear hb CM
  go_wp2_with fail
  refine (CW.out _ HQ.out hG LC.out RC.out).mono ?_; rintro e w2 ⟨rfl, hb⟩
  replace HB := Lib.hid (below_step hb HB.out HB.out.size)
  replace HQ := Lib.hid (HQ.out.below hb)
  replace hG : Hid (G w2) := g_below hG.out hb (g_lt hG.out)
  replace RC := Lib.hid (RC.out.below hb LC.out)
  replace LC : Hid (c < w2.heap.size) := Nat.lt_of_lt_of_le LC.out hb.size
  clear hb CW
  have hb : Below w2.heap.size w2 ((w2.alloc (Obj.cells (lf4 0 0 0 0) 41)).setRow w2.heap.size (lf4 adr lev ent frm)) := below_setRow ((Below.refl _ _).alloc (Nat.le_refl _) _) (Nat.le_refl _) _
  have HB3 := Lib.hid hb
  clear hb
  go_upto_region 3 with (refine wpList_store_rowP (fun wx => Below w2.heap.size w2 wx ∧ Row wx w2.heap.size 41 (lf4 adr lev ent frm) ∧ w2.heap.size < wx.heap.size) rfl 41 _ _ rfl w2.heap.size (lf4 adr lev ent frm) rfl rfl 41 (lf4 0 0 0 0) (row_new _ _ _) (info_lf _ _ _ _) rfl (one_lf _ _ _ _) ⟨HB3.out, (row_new _ _ _).setRow _, by rw [sz_setRow, sz_alloc]; exact Nat.lt_succ_self _⟩ ?_; rintro w3 ⟨hb, hl, hg⟩)
  replace HB := Lib.hid (below_step hb HB.out HB.out.size)
  replace HQ := Lib.hid (HQ.out.below hb)
  replace hG : Hid (G w3) := g_below hG.out hb (g_lt hG.out)
  replace RC := Lib.hid (RC.out.below hb LC.out)
  replace LC : Hid (c < w3.heap.size) := Nat.lt_of_lt_of_le LC.out hb.size
  have HL := Lib.hid hl
  have HG := Lib.hid hg
  have hca := (hl.cell 0).trans (show (lf4 adr lev ent frm)[0]? = some (.int .u64 (adr : Nat)) from rfl)
  clear hb hl hg HB3
  generalize w2.heap.size = g at HL HG hca ⊢
  clear w2
  rcases hcau with h0 | h0
  · subst h0
    have E2' := Lib.hid (E2.out rfl)
    have E3' := Lib.hid (E3.out rfl)
    clear E1 E2 E3
    go_upto_region 5 with fail
    have q1 : ∀ dd os, Calls Tryz.prog 45 #[.agg (u8s (cfO S)), .agg (u64s (adO S)), .int .i64 mm, .int .i64 k, .int .u64 adr, .int .i64 z] (grow (redrawn w3 dd) os) fun e w'' => e = .returned (.bool k1) ∧ ∃ p : Regrown, w'' = grow (redrawn w3 p.d) p.os := fun dd os =>
      q_b (CK.out _ (Lib.hid (g_below hG.out (below_regrown w3 dd os) (g_lt hG.out))))
    have q2 : ∀ dd os, Calls Tryz.prog 46 #[.pointer (some ⟨b, 0, none⟩), .int .i64 k, .int .u64 adr, .int .i64 z] (grow (redrawn w3 dd) os) fun e w'' => e = .returned (.bool k2) ∧ ∃ p : Regrown, w'' = grow (redrawn w3 p.d) p.os := fun dd os =>
      q_b (CY.out _ (HQ.out.below (below_regrown w3 dd os)))
    have hcr := cell_regrown hca
    cases k1 <;> cases k2
    all_goals
      refine wp_region_quiet_below (by kernel_rfl) (by kernel_rfl) ?_
      repeat (first
        | go_big_quiet_skip
        | (go_big_quiet_want; first
            | (refine quiet_load_part 24 _ rfl c 22 rfl 27 (cs S) (u8s (cfO S)) _ RC.out (cs_cfg S) Tryz.underlying24 rfl (info8c _) ?_; simp only [Act.put, List.setIfInBounds_toArray, List.set_cons_succ, List.set_cons_zero]; go_big_quiet_on)
            | (refine quiet_load_part 25 _ rfl c 30 rfl 27 (cs S) (u64s (adO S)) _ RC.out (cs_adr S) Tryz.underlying25 rfl (info8a _) ?_; simp only [Act.put, List.setIfInBounds_toArray, List.set_cons_succ, List.set_cons_zero]; go_big_quiet_on)
            | (go_big_quiet_op; first | go_big_quiet_on | go_big_quiet_call ((first | (go_at_call 45; exact q1 _ _) | (go_at_call 46; exact q2 _ _))))))
      refine wpQuiet_nil ?_
      intro _ hw'
      obtain ⟨⟨dq, osq⟩, hw''⟩ := hw'
      subst hw''
      have hb := below_regrown w3 dq osq
      replace HB := Lib.hid (below_step hb HB.out HB.out.size)
      replace hca := hcr dq osq
      generalize grow (redrawn w3 dq) osq = w5 at HB hca ⊢
      clear q1 q2 hcr hb
    · go_wp2_with (refine (CX.out _).mono ?_; rintro e wq ⟨rfl, h⟩; replace h := h.symm; subst h)
      go_ret2
      obtain ⟨e1, e2⟩ := E3'.out rfl
      exact ⟨by rw [e1, e2]; rfl, HB.out⟩
    · go_wp2_with (refine (CX.out _).mono ?_; rintro e wq ⟨rfl, h⟩; replace h := h.symm; subst h)
      go_ret2
      obtain ⟨e1, e2⟩ := E3'.out rfl
      exact ⟨by rw [e1, e2]; rfl, HB.out⟩
    · go_wp2_with (refine (CX.out _).mono ?_; rintro e wq ⟨rfl, h⟩; replace h := h.symm; subst h)
      go_ret2
      obtain ⟨e1, e2⟩ := E3'.out rfl
      exact ⟨by rw [e1, e2]; rfl, HB.out⟩
    · go_wp2_with fail
      go_ret2
      obtain ⟨e1, e2⟩ := E2'.out rfl
      exact ⟨by rw [e1, e2]; rfl, HB.out⟩
  · have h1 : cau ≠ 0 := fun h => by subst h; cases h0
    have E1' := Lib.hid (E1.out h1)
    clear E1 E2 E3 h1
    go_wp2_with fail
    go_ret2
    obtain ⟨e1, e2⟩ := E1'.out
    exact ⟨by rw [e1, e2]; rfl, HB.out⟩
theorem reach_ok : ReachOk := fun B b S c m k x z w hq hS hx hz hG hc hr => by
  have hl := wlk_lt B.F S (modeF S m k) k x hx.out
  have hW := fun u q g l r => walk_ok B b S c (modeF S m k) k x u q hS hx g l r
  unfold reachF
  unfold RetWk WRes.leaf at hW
  generalize walkF B.F S (modeF S m k) k x = r at hl hW
  cases r with
  | mk adr lev ent frm cau =>
    refine reach_core B S b c x adr ent frm cau (faultN k) m k (modeF S m k) lev z (chkB (cfO S) (adO S) (modeF S m k) k adr z) (U.mayB k adr z) _ _ ?_ (Lib.hid fun u l r => mode_ok S c m k u hS l r) (Lib.hid hW)
      (Lib.hid fun u g => Check_c (cfO S) (adO S) (modeF S m k) k adr z (Lib.hid hS.out.c) (Lib.hid hS.out.a) (Lib.hid hl) u g)
      (Lib.hid fun u q => by obtain ⟨R, W, q⟩ := q; exact U.may_q q k adr z hl hz) (Lib.hid fun u => accessFault_c k u) (Lib.hid ?_) (Lib.hid ?_) (Lib.hid ?_) w hq hG hc hr
    · by_cases h : cau = 0
      · exact Or.inl h
      · exact Or.inr (by simpa using h)
    · intro h
      rw [if_pos h]; exact ⟨rfl, rfl⟩
    · intro h h2
      obtain ⟨h3, h4⟩ := Bool.and_eq_true_iff.1 h2
      rw [if_neg (fun hh => hh h), if_pos ⟨h3, h4⟩]; exact ⟨rfl, rfl⟩
    · intro h h2
      rw [if_neg (fun hh => hh h), if_neg (fun hh => by rw [hh.1, hh.2] at h2; cases h2)]; exact ⟨rfl, rfl⟩
end Go.Proofs.YthhlcchofilimaaGreatDoor
