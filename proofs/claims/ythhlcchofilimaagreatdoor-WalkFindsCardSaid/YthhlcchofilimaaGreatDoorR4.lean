/- The document's Walk is the walk of the code. -/
import Derived.Test.YthhlcchofilimaaGreatDoorR3
namespace Go.Proofs.YthhlcchofilimaaGreatDoor
open Go.ChangeShapes Go.WideShapes Go.ChangeAt Go.RowKit Go.Sort Y
set_option linter.unusedVariables false
set_option linter.unusedSimpArgs false
def leafC (al nb : Bool) (pg : Nat) (r : WRes) : WRes := cond al (cond nb (noW pg) r) (noW pg)
theorem step_r (F S : Nat → Nat) (m k : Int) (x L t : Nat) (next : Nat → WRes) (z : Nat) (hz : U.M.readV F (fromN L t x) 8 = z) :
    stepW F S m k x L t next = cond (chkB (cfO S) (adO S) 1 1 (fromN L t x) 8) (cond (U.M.hasV (fromN L t x) 8) (cond (z.testBit 0) (cond (z.testBit 2) (cond (z.testBit 1)
      (cond (!(z / 2 ^ 54 == 0)) (noW (pageN k)) (cond (z.testBit 1) (cond (permB S m k z) (cond (!decide (4096 * nextN z % 2 ^ (12 + 9 * L) = 0)) (noW (pageN k)) ⟨4096 * nextN z + x % 2 ^ (12 + 9 * L), L, z, fromN L t x, 0⟩) (noW (pageN k))) (cond (z.testBit 3) (cond (permB S m k z) (cond (!decide (4096 * nextN z % 2 ^ (12 + 9 * L) = 0)) (noW (pageN k)) ⟨4096 * nextN z + x % 2 ^ (12 + 9 * L), L, z, fromN L t x, 0⟩) (noW (pageN k))) (cond (z.testBit 4) (noW (pageN k)) (cond (z.testBit 6) (noW (pageN k)) (cond (z.testBit 7) (noW (pageN k)) (next (nextN z))))))))
      (noW (pageN k)))
      (cond (!(z / 2 ^ 54 == 0)) (noW (pageN k)) (cond (z.testBit 1) (cond (permB S m k z) (cond (!decide (4096 * nextN z % 2 ^ (12 + 9 * L) = 0)) (noW (pageN k)) ⟨4096 * nextN z + x % 2 ^ (12 + 9 * L), L, z, fromN L t x, 0⟩) (noW (pageN k))) (cond (z.testBit 3) (cond (permB S m k z) (cond (!decide (4096 * nextN z % 2 ^ (12 + 9 * L) = 0)) (noW (pageN k)) ⟨4096 * nextN z + x % 2 ^ (12 + 9 * L), L, z, fromN L t x, 0⟩) (noW (pageN k))) (cond (z.testBit 4) (noW (pageN k)) (cond (z.testBit 6) (noW (pageN k)) (cond (z.testBit 7) (noW (pageN k)) (next (nextN z)))))))))
      (noW (pageN k))) (noW (faultN k))) (noW (faultN k)) := by
  unfold stepW
  rw [hz]
  have hb : brokenB z = (!z.testBit 0 || z.testBit 2 && !z.testBit 1 || !(z / 2 ^ 54 == 0)) := rfl
  have hl : leafB z = (z.testBit 1 || z.testBit 3) := rfl
  rw [hb, hl]
  clear hb hl hz
  generalize (!(z / 2 ^ 54 == 0)) = h
  generalize next (nextN z) = nx
  by_cases hP : 4096 * nextN z % 2 ^ (12 + 9 * L) = 0
  all_goals
    simp only [hP, and_true, and_false, decide_true, decide_false, Bool.not_true, Bool.not_false, cond_true, cond_false]
    clear hP
    generalize (⟨4096 * nextN z + x % 2 ^ (12 + 9 * L), L, z, fromN L t x, 0⟩ : WRes) = lf
    generalize chkB (cfO S) (adO S) 1 1 (fromN L t x) 8 = ck
    generalize U.M.hasV (fromN L t x) 8 = pl
    generalize z.testBit 0 = v
    generalize z.testBit 1 = y
    generalize z.testBit 2 = o
    generalize z.testBit 3 = e
    generalize z.testBit 4 = u
    generalize z.testBit 6 = q
    generalize z.testBit 7 = d
    generalize permB S m k z = al
    cases ck
    · simp
    cases pl
    · simp
    cases v
    · simp
    cases h
    · cases o <;> cases y
      · cases e
        · cases u <;> cases q <;> cases d <;> simp
        · cases al <;> simp
      · cases al <;> simp
      · simp
      · cases al <;> simp
    · cases o <;> cases y <;> simp
theorem rem_w (t D : Nat) (ht : t < 17592186044416) : (IntKind.u64.wrap (4096 * (t : Int))).tmod (D : Int) = ((4096 * t % D : Nat) : Int) := by
  have e : IntKind.u64.wrap (4096 * (t : Int)) = ((4096 * t : Nat) : Int) := by rw [IntKind.wrap_u64]; omega
  rw [e, Int.tmod_eq_emod_of_nonneg (by omega)]; simp
theorem fb_eq (t n : Nat) (ht : t < 17592186044416) : ((IntKind.u64.wrap (4096 * (t : Int))).tmod ((2 ^ n : Nat) : Int) != 0) = !decide (4096 * t % 2 ^ n = 0) := by
  rw [rem_w t _ ht, bne, show (0 : Int) = ((0 : Nat) : Int) from rfl, cast_beq]
  refine congrArg _ (Bool.eq_iff_iff.2 ?_); simp
theorem fa_eq (t x n : Nat) (ht : t < 17592186044416) (hn : n ≤ 30) : IntKind.u64.wrap (IntKind.u64.wrap (4096 * (t : Int)) + (x : Int) % ((2 ^ n : Nat) : Int)) = ((4096 * t + x % 2 ^ n : Nat) : Int) := by
  have e : IntKind.u64.wrap (4096 * (t : Int)) = ((4096 * t : Nat) : Int) := by rw [IntKind.wrap_u64]; omega
  have e2 : (x : Int) % ((2 ^ n : Nat) : Int) = ((x % 2 ^ n : Nat) : Int) := by simp
  rw [e, e2, IntKind.wrap_u64]
  have h1 : x % 2 ^ n < 2 ^ n := Nat.mod_lt _ (Nat.pow_pos (by decide))
  have h2 : 2 ^ n ≤ 2 ^ 30 := Nat.pow_le_pow_right (by decide) hn
  generalize x % 2 ^ n = y at h1 ⊢
  have : y < 1073741824 := by omega
  omega
theorem ff_eq (L t x : Nat) (ht : t < 17592186044416) : IntKind.u64.wrap (IntKind.u64.wrap (4096 * (t : Int)) + IntKind.u64.wrap (8 * ((x / 2 ^ (12 + 9 * L) % 512 : Nat) : Int))) = ((fromN L t x : Nat) : Int) := by
  unfold fromN
  have h3 : x / 2 ^ (12 + 9 * L) % 512 < 512 := Nat.mod_lt _ (by decide)
  generalize x / 2 ^ (12 + 9 * L) % 512 = y at h3 ⊢
  simp only [IntKind.wrap_u64]; omega
theorem h_eq (z : Nat) (hz : z < 18446744073709551616) : (((z / 2 ^ 54 % 2 ^ 10 : Nat) : Int) != 0) = !(z / 2 ^ 54 == 0) := by
  rw [show z / 2 ^ 54 % 2 ^ 10 = z / 2 ^ 54 from Nat.mod_eq_of_lt (by omega), bne, show (0 : Int) = ((0 : Nat) : Int) from rfl, cast_beq]
set_option maxRecDepth 100000 in
theorem walkr_m3 (rb c x : Nat) (k : Int) (w : World) : Calls Tryz.prog 8 #[.pointer (some ⟨rb, 0, none⟩), .pointer (some ⟨c, 0, none⟩), .int .i64 3, .int .i64 k, .int .u64 x] w (RetWk ⟨x, -1, 0, 0, 0⟩ w) := by
  obtain ⟨W0, hW0⟩ : ∃ W0, W0 = w.alloc (Obj.cells (lf4 0 0 0 0) 45) := ⟨_, rfl⟩
  have HB : Hid (Below w.heap.size w W0) := by show Below _ _ _; rw [hW0]; exact (Below.refl _ _).alloc (Nat.le_refl _) _
  have RL : Hid (Row W0 w.heap.size 45 (lf4 0 0 0 0)) := by show Row _ _ _ _; rw [hW0]; exact row_new _ _ _
  have HW := Lib.hid hW0
  clear hW0
  go_enter Tryz.func8, Tryz.ntmps8
  go_upto_region 1 with fail
  rw [show w.alloc (Obj.cells #[.int .u64 0, .int .i64 0, .int .u64 0, .int .u64 0] 45) = W0 from HW.out.symm]
  clear HW
  go_wp2_with (refine wpList_store_rowP (fun wx => Below w.heap.size w wx ∧ Row wx w.heap.size 45 (lf4 x (-1) 0 0)) rfl 45 _ _ rfl w.heap.size (lf4 x (-1) 0 0) rfl rfl 45 (lf4 0 0 0 0) RL.out (info_lr _ _ _ _) rfl (one_lf _ _ _ _) ⟨below_setRow HB.out (Nat.le_refl _) _, RL.out.setRow _⟩ ?_; rintro wz ⟨hb2, hr2⟩)
  (try simp only [Exit.inBlock, Exit.then])
  refine bodyPost_ret (results_row2 rfl _ _ w.heap.size 45 (lf4 x (-1) 0 0) (0, 0) _ rfl hr2 Tryz.underlying45 rfl (info_lr _ _ _ _)) rfl ?_
  exact ⟨rfl, hb2⟩
theorem walkr_ok (F S : Nat → Nat) (rb mm c : Nat) (m k : Int) (x : Nat) (w : World) (hq : RAt rb mm F w) (hF : ∀ i, F i < 256) (hS : Hid (OkS S)) (hx : Hid (x < 18446744073709551616)) (hc : c < w.heap.size) (hr : Row w c 27 (cs S)) :
    Calls Tryz.prog 8 #[.pointer (some ⟨rb, 0, none⟩), .pointer (some ⟨c, 0, none⟩), .int .i64 m, .int .i64 k, .int .u64 x] w (RetWk (walkF F S m k x) w) := by
  by_cases h3 : m = 3
  · subst h3
    have e : walkF F S 3 k x = ⟨x, -1, 0, 0, 0⟩ := by unfold walkF; rw [if_pos (Or.inl rfl)]
    rw [e]; exact walkr_m3 rb c x k w
  have m3 : (m == 3) = false := by simpa using h3
  have s20 : S 20 < 18446744073709551616 := hS.out.u 20 (by decide)
  obtain ⟨t2, ht2⟩ : ∃ t, t = S 20 % 2 ^ 44 := ⟨_, rfl⟩
  have bt : t2 < 17592186044416 := by rw [ht2]; exact Nat.mod_lt _ (by decide)
  have bz : ∀ f, U.M.readV F f 8 < 18446744073709551616 := fun f => rdV_lt hF f 8
  obtain ⟨z2, hz2⟩ : ∃ z, U.M.readV F (fromN 2 t2 x) 8 = z := ⟨_, rfl⟩
  obtain ⟨z1, hz1⟩ : ∃ z, U.M.readV F (fromN 1 (nextN z2) x) 8 = z := ⟨_, rfl⟩
  obtain ⟨z0, hz0⟩ : ∃ z, U.M.readV F (fromN 0 (nextN z1) x) 8 = z := ⟨_, rfl⟩
  have b2 : z2 < 18446744073709551616 := hz2 ▸ bz _
  have b1 : z1 < 18446744073709551616 := hz1 ▸ bz _
  have b0 : z0 < 18446744073709551616 := hz0 ▸ bz _
  have CK : ∀ f, f < 18446744073709551616 → ∀ u, Calls Tryz.prog 39 #[.agg (u8s (cfO S)), .agg (u64s (adO S)), .int .i64 1, .int .i64 1, .int .u64 (f : Nat), .int .i64 8] u (RetB (chkB (cfO S) (adO S) 1 1 f 8) u) := fun f hf u => CheckR_c (cfO S) (adO S) 1 1 f 8 (Lib.hid hS.out.c) (Lib.hid hS.out.a) (Lib.hid hf) u
  have CL : ∀ f, f < 18446744073709551616 → ∀ u, RAt rb mm F u → Calls Tryz.prog 40 #[.pointer (some ⟨rb, 0, none⟩), .int .u64 (f : Nat), .int .i64 8] u (RetB (U.M.hasV f 8) u) := fun f hf u q => rat_plain q f 8 hf
  have CR : ∀ f z, f < 18446744073709551616 → U.M.readV F f 8 = z → ∀ u, RAt rb mm F u → Calls Tryz.prog 42 #[.pointer (some ⟨mm, 0, none⟩), .int .u64 (f : Nat), .int .i64 8] u (RetRE z (U.M.hasV f 8) u) := fun f z hf e u q => by rw [← e]; exact rat_read q f 8 hf
  have CB : ∀ z, z < 18446744073709551616 → ∀ i, i < 64 → ∀ u, Calls Tryz.prog 43 #[.int .u64 (z : Nat), .int .i64 (i : Nat)] u (RetBX (z.testBit i) u) := fun z hz i hi u => bit_c z i (Lib.hid hz) hi u
  have CPt : ∀ n, n < 18446744073709551616 → ∀ hi lo, hi < 64 → lo ≤ hi + 1 → ∀ u, Calls Tryz.prog 37 #[.int .u64 (n : Nat), .int .i64 (hi : Nat), .int .i64 (lo : Nat)] u (RetUX (n / 2 ^ lo % 2 ^ (hi + 1 - lo)) u) := fun n hn hi lo h1 h2 u => part_c n hi lo (Lib.hid hn) (Lib.hid h1) (Lib.hid h2) u
  refine walkr_core F S rb mm c x m k (pageN k) (faultN k) (S 20 / 2 ^ 60 % 2 ^ 4) (x / 2 ^ 38 % 2 ^ 26)
    t2 (x / 2 ^ (12 + 9 * 2) % 512) (fromN 2 t2 x) z2 (z2 / 2 ^ 54 % 2 ^ 10) (4096 * nextN z2 + x % 2 ^ (12 + 9 * 2))
    (nextN z2) (x / 2 ^ (12 + 9 * 1) % 512) (fromN 1 (nextN z2) x) z1 (z1 / 2 ^ 54 % 2 ^ 10) (4096 * nextN z1 + x % 2 ^ (12 + 9 * 1))
    (nextN z1) (x / 2 ^ (12 + 9 * 0) % 512) (fromN 0 (nextN z1) x) z0 (z0 / 2 ^ 54 % 2 ^ 10) (4096 * nextN z0 + x % 2 ^ (12 + 9 * 0)) (nextN z0)
    (!decide (S 20 / 2 ^ 60 = 8)) (decide (x / 2 ^ 38 ≠ 0)) (decide (x / 2 ^ 38 ≠ 67108863))
    (chkB (cfO S) (adO S) 1 1 (fromN 2 t2 x) 8) (U.M.hasV (fromN 2 t2 x) 8) (z2.testBit 0) (z2.testBit 1) (z2.testBit 2) (z2.testBit 3) (z2.testBit 4) (z2.testBit 6) (z2.testBit 7) (!(z2 / 2 ^ 54 == 0)) (permB S m k z2) (!decide (4096 * nextN z2 % 2 ^ (12 + 9 * 2) = 0))
    (chkB (cfO S) (adO S) 1 1 (fromN 1 (nextN z2) x) 8) (U.M.hasV (fromN 1 (nextN z2) x) 8) (z1.testBit 0) (z1.testBit 1) (z1.testBit 2) (z1.testBit 3) (z1.testBit 4) (z1.testBit 6) (z1.testBit 7) (!(z1 / 2 ^ 54 == 0)) (permB S m k z1) (!decide (4096 * nextN z1 % 2 ^ (12 + 9 * 1) = 0))
    (chkB (cfO S) (adO S) 1 1 (fromN 0 (nextN z1) x) 8) (U.M.hasV (fromN 0 (nextN z1) x) 8) (z0.testBit 0) (z0.testBit 1) (z0.testBit 2) (z0.testBit 3) (z0.testBit 4) (z0.testBit 6) (z0.testBit 7) (!(z0 / 2 ^ 54 == 0)) (permB S m k z0) (!decide (4096 * nextN z0 % 2 ^ (12 + 9 * 0) = 0))
    (walkF F S m k x) (stepW F S m k x 2 t2 (fun t => stepW F S m k x 1 t (fun t => stepW F S m k x 0 t (fun _ => noW (pageN k))))) (stepW F S m k x 1 (nextN z2) (fun t => stepW F S m k x 0 t (fun _ => noW (pageN k)))) (stepW F S m k x 0 (nextN z1) (fun _ => noW (pageN k))) m3
    (Lib.hid fun u => CPt (S 20) s20 63 60 (by decide) (by decide) u) (Lib.hid fun u => CPt x hx.out 63 38 (by decide) (by decide) u) (Lib.hid fun u => ?_) ?_ ?_ ?_ (Lib.hid fun u => pager_c k u) (Lib.hid fun u => faultr_c k u)
    (Lib.hid fun u => CPt x hx.out 38 30 (by decide) (by decide) u) (Lib.hid (ff_eq 2 t2 x bt)) (Lib.hid (CK _ (frm_lt 2 t2 x bt))) (Lib.hid (CL _ (frm_lt 2 t2 x bt))) (Lib.hid (CR _ _ (frm_lt 2 t2 x bt) hz2)) (Lib.hid fun u => ⟨CB z2 b2 0 (by decide) u, CB z2 b2 1 (by decide) u, CB z2 b2 2 (by decide) u, CB z2 b2 3 (by decide) u⟩) (Lib.hid fun u => ⟨CB z2 b2 4 (by decide) u, CB z2 b2 6 (by decide) u, CB z2 b2 7 (by decide) u⟩) (Lib.hid fun u => CPt z2 b2 63 54 (by decide) (by decide) u) (Lib.hid (h_eq z2 b2)) (Lib.hid fun u => CPt z2 b2 53 10 (by decide) (by decide) u) (Lib.hid fun u r => allowr_c S c m k z2 hS (Lib.hid b2) u ((r.cell 0).trans rfl)) (Lib.hid (fb_eq (nextN z2) 30 (nxt_lt _))) (Lib.hid (fa_eq (nextN z2) x 30 (nxt_lt _) (by decide))) (Lib.hid (step_r F S m k x 2 t2 _ z2 hz2))
    (Lib.hid fun u => CPt x hx.out 29 21 (by decide) (by decide) u) (Lib.hid (ff_eq 1 (nextN z2) x (nxt_lt _))) (Lib.hid (CK _ (frm_lt 1 _ x (nxt_lt _)))) (Lib.hid (CL _ (frm_lt 1 _ x (nxt_lt _)))) (Lib.hid (CR _ _ (frm_lt 1 _ x (nxt_lt _)) hz1)) (Lib.hid fun u => ⟨CB z1 b1 0 (by decide) u, CB z1 b1 1 (by decide) u, CB z1 b1 2 (by decide) u, CB z1 b1 3 (by decide) u⟩) (Lib.hid fun u => ⟨CB z1 b1 4 (by decide) u, CB z1 b1 6 (by decide) u, CB z1 b1 7 (by decide) u⟩) (Lib.hid fun u => CPt z1 b1 63 54 (by decide) (by decide) u) (Lib.hid (h_eq z1 b1)) (Lib.hid fun u => CPt z1 b1 53 10 (by decide) (by decide) u) (Lib.hid fun u r => allowr_c S c m k z1 hS (Lib.hid b1) u ((r.cell 0).trans rfl)) (Lib.hid (fb_eq (nextN z1) 21 (nxt_lt _))) (Lib.hid (fa_eq (nextN z1) x 21 (nxt_lt _) (by decide))) (Lib.hid (step_r F S m k x 1 (nextN z2) _ z1 hz1))
    (Lib.hid fun u => CPt x hx.out 20 12 (by decide) (by decide) u) (Lib.hid (ff_eq 0 (nextN z1) x (nxt_lt _))) (Lib.hid (CK _ (frm_lt 0 _ x (nxt_lt _)))) (Lib.hid (CL _ (frm_lt 0 _ x (nxt_lt _)))) (Lib.hid (CR _ _ (frm_lt 0 _ x (nxt_lt _)) hz0)) (Lib.hid fun u => ⟨CB z0 b0 0 (by decide) u, CB z0 b0 1 (by decide) u, CB z0 b0 2 (by decide) u, CB z0 b0 3 (by decide) u⟩) (Lib.hid fun u => ⟨CB z0 b0 4 (by decide) u, CB z0 b0 6 (by decide) u, CB z0 b0 7 (by decide) u⟩) (Lib.hid fun u => CPt z0 b0 63 54 (by decide) (by decide) u) (Lib.hid (h_eq z0 b0)) (Lib.hid fun u => CPt z0 b0 53 10 (by decide) (by decide) u) (Lib.hid fun u r => allowr_c S c m k z0 hS (Lib.hid b0) u ((r.cell 0).trans rfl)) (Lib.hid (fb_eq (nextN z0) 12 (nxt_lt _))) (Lib.hid (fa_eq (nextN z0) x 12 (nxt_lt _) (by decide))) (Lib.hid (step_r F S m k x 0 (nextN z1) _ z0 hz0))
    (Lib.hid ?_) w hq hc hr
  · have h := CPt (S 20) s20 43 0 (by decide) (by decide) u
    rw [Nat.pow_zero, Nat.div_one, show 2 ^ (43 + 1 - 0) = 2 ^ 44 from rfl, ← ht2] at h
    exact h
  · rw [show S 20 / 2 ^ 60 % 2 ^ 4 = S 20 / 2 ^ 60 from Nat.mod_eq_of_lt (by omega), bne, show (8 : Int) = ((8 : Nat) : Int) from rfl, cast_beq]
    refine congrArg _ (Bool.eq_iff_iff.2 ?_); simp
  · have h := hx.out
    rw [show x / 2 ^ 38 % 2 ^ 26 = x / 2 ^ 38 from Nat.mod_eq_of_lt (by omega), bne, show (0 : Int) = ((0 : Nat) : Int) from rfl, cast_beq]
    refine Bool.eq_iff_iff.2 ?_; simp
  · have h := hx.out
    rw [show x / 2 ^ 38 % 2 ^ 26 = x / 2 ^ 38 from Nat.mod_eq_of_lt (by omega), bne, show (67108863 : Int) = ((67108863 : Nat) : Int) from rfl, cast_beq]
    refine Bool.eq_iff_iff.2 ?_; simp
  · unfold walkF
    rw [← ht2]
    by_cases hs : S 20 / 2 ^ 60 = 8
    · rw [if_neg (fun h => h.elim h3 (fun h => h hs)), decide_eq_true hs]
      by_cases hv1 : x / 2 ^ 38 ≠ 0
      · by_cases hv2 : x / 2 ^ 38 ≠ 67108863
        · rw [if_pos ⟨hv1, hv2⟩, decide_eq_true hv1, decide_eq_true hv2]; rfl
        · rw [if_neg (fun h => hv2 h.2), decide_eq_true hv1, decide_eq_false hv2]; rfl
      · rw [if_neg (fun h => hv1 h.1), decide_eq_false hv1]; rfl
    · rw [if_pos (Or.inr hs), decide_eq_false hs]; rfl
end Go.Proofs.YthhlcchofilimaaGreatDoor
