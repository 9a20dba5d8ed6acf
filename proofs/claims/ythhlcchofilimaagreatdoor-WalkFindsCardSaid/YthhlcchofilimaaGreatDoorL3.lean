/- Places of entries and pages; readEntry. -/
import Derived.Test.YthhlcchofilimaaGreatDoorL2
import Derived.Lib.QuietBelow
namespace Go.Proofs.YthhlcchofilimaaGreatDoor
open Go.ChangeShapes Go.WideShapes Go.ChangeAt Go.RowKit Go.Sort Y
set_option linter.unusedVariables false
set_option linter.unusedSimpArgs false

theorem translates_c (S : Nat → Nat) (c : Nat) (hS : Hid (OkS S)) (w : World) (h0 : w.cell? ⟨c, 20, none⟩ = some (.int .u64 (S 20 : Nat))) : Calls Tryz.prog 25 #[.pointer (some ⟨c, 0, none⟩)] w (RetBX (decide (S 20 / 2 ^ 60 = 8)) w) := by
  have f1 : (((S 20 : Nat) : Int) / 1152921504606846976 == 8) = decide (S 20 / 2 ^ 60 = 8) := by
    have h : ((S 20 : Nat) : Int) / 1152921504606846976 = ((S 20 / 2 ^ 60 : Nat) : Int) := by simp
    rw [h, show (8 : Int) = ((8 : Nat) : Int) from rfl, cast_beq]; exact Bool.eq_iff_iff.2 (by simp)
  generalize decide (S 20 / 2 ^ 60 = 8) = R at f1 ⊢
  go_enter Tryz.func25, Tryz.ntmps25
  go_wp2_with fail
  go_ret
  exact retBX_mk rfl
theorem msk44 (x : Nat) (hx : x < 18446744073709551616) : bits .and .u64 (x : Int) 17592186044415 = ((x % 2 ^ 44 : Nat) : Int) := by
  have h := u_and x 17592186044415 hx (by decide)
  rw [show (17592186044415 : Nat) = 2 ^ 44 - 1 from rfl, Nat.and_two_pow_sub_one_eq_mod] at h
  exact h
theorem firstTable_c (S : Nat → Nat) (c : Nat) (hS : Hid (OkS S)) (w : World) (h0 : w.cell? ⟨c, 20, none⟩ = some (.int .u64 (S 20 : Nat))) : Calls Tryz.prog 26 #[.pointer (some ⟨c, 0, none⟩)] w (RetUX (S 20 % 2 ^ 44) w) := by
  have f1 := Lib.hid (msk44 (S 20) (hS.out.u 20 (by decide)))
  go_enter Tryz.func26, Tryz.ntmps26
  go_wp2_with fail
  go_ret
  exact retUX_mk f1.out
theorem pageOf_c (e : Nat) (he : Hid (e < 18446744073709551616)) (w : World) : Calls Tryz.prog 32 #[.int .u64 e] w (RetUX (nextN e) w) := by
  have f1 : Hid (bits .and .u64 ((e : Int) / 1024) 17592186044415 = ((nextN e : Nat) : Int)) := by
    show _ = _
    have h : (e : Int) / 1024 = ((e / 1024 : Nat) : Int) := by simp
    rw [h, msk44 _ (Nat.lt_of_le_of_lt (Nat.div_le_self _ _) he.out)]; rfl
  go_enter Tryz.func32, Tryz.ntmps32
  go_wp2_with fail
  go_ret
  exact retUX_mk f1.out
theorem inPage_0 (w : World) : Calls Tryz.prog 58 #[.int .i64 0] w (RetIX 12 w) := by
  go_enter Tryz.func58, Tryz.ntmps58
  go_wp2_with fail
  go_ret
  exact retIX_mk rfl
theorem inPage_1 (w : World) : Calls Tryz.prog 58 #[.int .i64 1] w (RetIX 21 w) := by
  go_enter Tryz.func58, Tryz.ntmps58
  go_wp2_with fail
  go_ret
  exact retIX_mk rfl
theorem inPage_2 (w : World) : Calls Tryz.prog 58 #[.int .i64 2] w (RetIX 30 w) := by
  go_enter Tryz.func58, Tryz.ntmps58
  go_wp2_with fail
  go_ret
  exact retIX_mk rfl
theorem isVirtual_c (x : Nat) (hx : Hid (x < 18446744073709551616)) (w : World) : Calls Tryz.prog 28 #[.int .u64 x] w (RetBX (!decide (x / 2 ^ 38 ≠ 0 ∧ x / 2 ^ 38 ≠ 67108863)) w) := by
  have f1 : (wrap64 (x : Int) / 274877906944 == 0) = decide (x / 2 ^ 38 = 0) := by
    have h := hx.out
    refine Bool.eq_iff_iff.2 ?_
    simp only [beq_iff_eq, decide_eq_true_eq]
    unfold wrap64; omega
  have f2 : (wrap64 (x : Int) / 274877906944 == -1) = decide (x / 2 ^ 38 = 67108863) := by
    have h := hx.out
    refine Bool.eq_iff_iff.2 ?_
    simp only [beq_iff_eq, decide_eq_true_eq]
    unfold wrap64; omega
  have E : Hid ((!decide (x / 2 ^ 38 ≠ 0 ∧ x / 2 ^ 38 ≠ 67108863)) = (decide (x / 2 ^ 38 = 0) || decide (x / 2 ^ 38 = 67108863))) := by
    show _ = _
    by_cases h1 : x / 2 ^ 38 = 0 <;> by_cases h2 : x / 2 ^ 38 = 67108863 <;> simp [h1, h2]
  generalize (!decide (x / 2 ^ 38 ≠ 0 ∧ x / 2 ^ 38 ≠ 67108863)) = R at E ⊢
  generalize decide (x / 2 ^ 38 = 0) = a at *
  generalize decide (x / 2 ^ 38 = 67108863) = b at *
  clear hx
  cases a <;> cases b <;>
  ( go_enter Tryz.func28, Tryz.ntmps28
    go_wp2_with fail
    go_ret
    exact retBX_mk E.out.symm )
theorem wrap_p (p : Nat) (hp : p < 17592186044416) : IntKind.u64.wrap ((p : Int) * 4096) = ((4096 * p : Nat) : Int) := by
  rw [IntKind.wrap_u64]; omega
theorem and_n (x n : Nat) (hx : x < 18446744073709551616) (hn : n ≤ 64) : bits .and .u64 (x : Int) ((2 ^ n - 1 : Nat) : Int) = ((x % 2 ^ n : Nat) : Int) := by
  have hp : 2 ^ n ≤ 2 ^ 64 := Nat.pow_le_pow_right (by decide) hn
  have h0 : 0 < 2 ^ n := Nat.pow_pos (by decide)
  rw [u_and x (2 ^ n - 1) hx (by omega), Nat.and_two_pow_sub_one_eq_mod]
theorem place_eq (L p x D : Nat) (hD : D = 2 ^ (12 + 9 * L)) (hp : p < 17592186044416) (hx : x < 18446744073709551616) :
    IntKind.u64.wrap (IntKind.u64.wrap ((p : Int) * 4096) + IntKind.u64.wrap (8 * bits .and .u64 ((x : Int) / (D : Int)) 511)) = ((fromN L p x : Nat) : Int) := by
  have h1 : (x : Int) / (D : Int) = ((x / D : Nat) : Int) := by simp
  have h2 : bits .and .u64 ((x / D : Nat) : Int) 511 = ((x / D % 512 : Nat) : Int) := and_n (x / D) 9 (Nat.lt_of_le_of_lt (Nat.div_le_self _ _) hx) (by decide)
  unfold fromN
  rw [h1, h2, wrap_p p hp, hD]
  have h3 : x / 2 ^ (12 + 9 * L) % 512 < 512 := Nat.mod_lt _ (by decide)
  generalize x / 2 ^ (12 + 9 * L) % 512 = y at h3 ⊢
  simp only [IntKind.wrap_u64]; omega
theorem begin_eq (n p : Nat) (hp : p < 17592186044416) (hn : n ≤ 64) : (bits .and .u64 (IntKind.u64.wrap ((p : Int) * 4096)) ((2 ^ n - 1 : Nat) : Int) == 0) = decide (4096 * p % 2 ^ n = 0) := by
  rw [wrap_p p hp, and_n _ n (by omega) hn, show (0 : Int) = ((0 : Nat) : Int) from rfl, cast_beq]; exact Bool.eq_iff_iff.2 (by simp)
theorem addr_eq (n p x : Nat) (hp : p < 17592186044416) (hx : x < 18446744073709551616) (hn : n ≤ 30) : IntKind.u64.wrap (IntKind.u64.wrap ((p : Int) * 4096) + bits .and .u64 (x : Int) ((2 ^ n - 1 : Nat) : Int)) = ((4096 * p + x % 2 ^ n : Nat) : Int) := by
  rw [wrap_p p hp, and_n x n hx (by omega), IntKind.wrap_u64]
  have h1 : x % 2 ^ n < 2 ^ n := Nat.mod_lt _ (Nat.pow_pos (by decide))
  have h2 : 2 ^ n ≤ 2 ^ 30 := Nat.pow_le_pow_right (by decide) hn
  generalize x % 2 ^ n = y at h1 ⊢
  have : y < 1073741824 := by omega
  omega
theorem entryPlace_0 (p x : Nat) (hp : Hid (p < 17592186044416)) (hx : Hid (x < 18446744073709551616)) (w : World) : Calls Tryz.prog 29 #[.int .u64 p, .int .i64 0, .int .u64 x] w (RetUX (fromN 0 p x) w) := by
  have E := Lib.hid (place_eq 0 p x 4096 rfl hp.out hx.out)
  go_enter Tryz.func29, Tryz.ntmps29
  go_wp2_with (refine (inPage_0 _).mono ?_; rintro e w1 ⟨rfl, h⟩; replace h := h.symm; subst h)
  go_ret
  exact retUX_mk E.out
theorem begins_0 (p : Nat) (hp : Hid (p < 17592186044416)) (w : World) : Calls Tryz.prog 35 #[.int .u64 p, .int .i64 0] w (RetBX (decide (4096 * p % 2 ^ (12 + 9 * 0) = 0)) w) := by
  have E : Hid ((bits .and .u64 (IntKind.u64.wrap ((p : Int) * 4096)) 4095 == 0) = decide (4096 * p % 2 ^ (12 + 9 * 0) = 0)) := begin_eq 12 p hp.out (by decide)
  go_enter Tryz.func35, Tryz.ntmps35
  go_wp2_with (refine (inPage_0 _).mono ?_; rintro e w1 ⟨rfl, h⟩; replace h := h.symm; subst h)
  go_ret
  exact retBX_mk E.out
theorem address_0 (p x : Nat) (hp : Hid (p < 17592186044416)) (hx : Hid (x < 18446744073709551616)) (w : World) : Calls Tryz.prog 36 #[.int .u64 p, .int .i64 0, .int .u64 x] w (RetUX (4096 * p + x % 2 ^ (12 + 9 * 0)) w) := by
  have E : Hid (IntKind.u64.wrap (IntKind.u64.wrap ((p : Int) * 4096) + bits .and .u64 (x : Int) 4095) = ((4096 * p + x % 2 ^ (12 + 9 * 0) : Nat) : Int)) := addr_eq 12 p x hp.out hx.out (by decide)
  go_enter Tryz.func36, Tryz.ntmps36
  go_wp2_with (refine (inPage_0 _).mono ?_; rintro e w1 ⟨rfl, h⟩; replace h := h.symm; subst h)
  go_ret
  exact retUX_mk E.out
theorem entryPlace_1 (p x : Nat) (hp : Hid (p < 17592186044416)) (hx : Hid (x < 18446744073709551616)) (w : World) : Calls Tryz.prog 29 #[.int .u64 p, .int .i64 1, .int .u64 x] w (RetUX (fromN 1 p x) w) := by
  have E := Lib.hid (place_eq 1 p x 2097152 rfl hp.out hx.out)
  go_enter Tryz.func29, Tryz.ntmps29
  go_wp2_with (refine (inPage_1 _).mono ?_; rintro e w1 ⟨rfl, h⟩; replace h := h.symm; subst h)
  go_ret
  exact retUX_mk E.out
theorem begins_1 (p : Nat) (hp : Hid (p < 17592186044416)) (w : World) : Calls Tryz.prog 35 #[.int .u64 p, .int .i64 1] w (RetBX (decide (4096 * p % 2 ^ (12 + 9 * 1) = 0)) w) := by
  have E : Hid ((bits .and .u64 (IntKind.u64.wrap ((p : Int) * 4096)) 2097151 == 0) = decide (4096 * p % 2 ^ (12 + 9 * 1) = 0)) := begin_eq 21 p hp.out (by decide)
  go_enter Tryz.func35, Tryz.ntmps35
  go_wp2_with (refine (inPage_1 _).mono ?_; rintro e w1 ⟨rfl, h⟩; replace h := h.symm; subst h)
  go_ret
  exact retBX_mk E.out
theorem address_1 (p x : Nat) (hp : Hid (p < 17592186044416)) (hx : Hid (x < 18446744073709551616)) (w : World) : Calls Tryz.prog 36 #[.int .u64 p, .int .i64 1, .int .u64 x] w (RetUX (4096 * p + x % 2 ^ (12 + 9 * 1)) w) := by
  have E : Hid (IntKind.u64.wrap (IntKind.u64.wrap ((p : Int) * 4096) + bits .and .u64 (x : Int) 2097151) = ((4096 * p + x % 2 ^ (12 + 9 * 1) : Nat) : Int)) := addr_eq 21 p x hp.out hx.out (by decide)
  go_enter Tryz.func36, Tryz.ntmps36
  go_wp2_with (refine (inPage_1 _).mono ?_; rintro e w1 ⟨rfl, h⟩; replace h := h.symm; subst h)
  go_ret
  exact retUX_mk E.out
theorem entryPlace_2 (p x : Nat) (hp : Hid (p < 17592186044416)) (hx : Hid (x < 18446744073709551616)) (w : World) : Calls Tryz.prog 29 #[.int .u64 p, .int .i64 2, .int .u64 x] w (RetUX (fromN 2 p x) w) := by
  have E := Lib.hid (place_eq 2 p x 1073741824 rfl hp.out hx.out)
  go_enter Tryz.func29, Tryz.ntmps29
  go_wp2_with (refine (inPage_2 _).mono ?_; rintro e w1 ⟨rfl, h⟩; replace h := h.symm; subst h)
  go_ret
  exact retUX_mk E.out
theorem begins_2 (p : Nat) (hp : Hid (p < 17592186044416)) (w : World) : Calls Tryz.prog 35 #[.int .u64 p, .int .i64 2] w (RetBX (decide (4096 * p % 2 ^ (12 + 9 * 2) = 0)) w) := by
  have E : Hid ((bits .and .u64 (IntKind.u64.wrap ((p : Int) * 4096)) 1073741823 == 0) = decide (4096 * p % 2 ^ (12 + 9 * 2) = 0)) := begin_eq 30 p hp.out (by decide)
  go_enter Tryz.func35, Tryz.ntmps35
  go_wp2_with (refine (inPage_2 _).mono ?_; rintro e w1 ⟨rfl, h⟩; replace h := h.symm; subst h)
  go_ret
  exact retBX_mk E.out
theorem address_2 (p x : Nat) (hp : Hid (p < 17592186044416)) (hx : Hid (x < 18446744073709551616)) (w : World) : Calls Tryz.prog 36 #[.int .u64 p, .int .i64 2, .int .u64 x] w (RetUX (4096 * p + x % 2 ^ (12 + 9 * 2)) w) := by
  have E : Hid (IntKind.u64.wrap (IntKind.u64.wrap ((p : Int) * 4096) + bits .and .u64 (x : Int) 1073741823) = ((4096 * p + x % 2 ^ (12 + 9 * 2) : Nat) : Int)) := addr_eq 30 p x hp.out hx.out (by decide)
  go_enter Tryz.func36, Tryz.ntmps36
  go_wp2_with (refine (inPage_2 _).mono ?_; rintro e w1 ⟨rfl, h⟩; replace h := h.symm; subst h)
  go_ret
  exact retUX_mk E.out
/-- Part of a block, whole, in a region that only reads. -/
theorem run_load_part {P : Program} {o : Oper} {a : Act} {w : World} (ty : TypeId) (x : Operand) (ho : o.op = .load ty x)
    (g off : Nat) (hx : a.eval x = .pointer (some ⟨g, off, none⟩)) (cs : Array Value) (d : TypeDesc) (hc : ∀ j, j < cs.size → w.cell? ⟨g, off + j, none⟩ = cs[j]?)
    (hu : P.underlying ty = some d) (hd : (match d with | .struct _ | .array _ _ => true | _ => false) = true) (hi : (P.info? ty).map (·.size) = some cs.size) : (execOp a.eval o).run P w = .ok (.value (.agg cs)) w := by
  have hl : (loadCells ⟨g, off, none⟩ cs.toList.length).run P w = .ok cs.toList.toArray w :=
    run_loadCells_list (P := P) w ⟨g, off, none⟩ cs.toList (fun j v hv => by
      have hadd : (⟨g, off, none⟩ : Addr).add j = ⟨g, off + j, none⟩ := by unfold Addr.add; split <;> simp_all
      have hj : j < cs.size := by
        have := (List.getElem?_eq_some_iff.1 hv).1
        simpa using this
      rw [hadd, hc j hj]
      simpa using hv)
  have hlv : (loadVar ty ⟨g, off, none⟩).run P w = .ok (.agg cs) w := by
    cases hq : P.info? ty with
    | none => simp [hq] at hi
    | some i =>
      have hs : i.size = cs.size := by simpa [hq] using hi
      have hagg : (isAgg ty).run P w = .ok true w := by
        unfold isAgg
        rw [Sem.run_bind, run_underlying hu w]
        cases d <;> simp_all
      simp only [Array.length_toList, Array.toArray_toList] at hl
      simp [loadVar, Sem.run_bind, hagg, sizeOf, typeInfo, hq, hs, hl]
  unfold execOp
  simp only [ho, hx, Instr.loadAt, Instr.sureAddr, Sem.run_bind, Sem.run_pure, Result.andThen_ok, hlv]
theorem quiet_load_part {P : Program} {o : Oper} {a : Act} {W : World} {K : Act → Prop} (ty : TypeId) (x : Operand) (ho : o.op = .load ty x) (g off : Nat) (hx : a.eval x = .pointer (some ⟨g, off, none⟩)) (t : TypeId) (cb : Array Value) (cs : Array Value) (d : TypeDesc) (hg : Row W g t cb)
    (hc : ∀ j, j < cs.size → cb[off + j]? = cs[j]?)
    (hu : P.underlying ty = some d) (hd : (match d with | .struct _ | .array _ _ => true | _ => false) = true) (hi : (P.info? ty).map (·.size) = some cs.size) (h : K (a.put o.dst (.agg cs))) : o.quiet P a (fun w' => ∃ p : Regrown, w' = grow (redrawn W p.d) p.os) K :=
  ⟨_, fun w hw => by
    obtain ⟨p, rfl⟩ := hw
    unfold Oper.quietAt
    rw [run_load_part ty x ho g off hx cs d (fun j hj => ((row_regrown hg p).cell (off + j)).trans (hc j hj)) hu hd hi]
    exact ⟨rfl, rfl⟩, h⟩
def RetRE (v : Nat) (b : Bool) (W : World) (e : Ending) (w' : World) : Prop := e = .returned (.tuple #[.int .u64 v, .bool b]) ∧ Below W.heap.size W w'
theorem retRE_mk {v x : Nat} {b c : Bool} {W w' : World} (h1 : x = v) (h2 : c = b) (hb : Below W.heap.size W w') : RetRE v b W (.returned (.tuple #[.int .u64 x, .bool c])) w' := ⟨by rw [h1, h2], hb⟩
theorem g_lt {w : World} (h : G w) : 0 < w.heap.size := h.1
set_option maxRecDepth 100000 in
set_option maxHeartbeats 2000000 in
theorem readEntry_c (B : U.Bs) (b : Nat) (S : Nat → Nat) (c x : Nat) (w : World) (hq : Hid (BusAt b B w)) (hS : Hid (OkS S)) (hx : Hid (x < 18446744073709551616)) (hG : Hid (G w)) (hc : Hid (c < w.heap.size)) (hr : Hid (Row w c 27 (cs S))) :
    Calls Tryz.prog 30 #[.pointer (some ⟨b, 0, none⟩), .pointer (some ⟨c, 0, none⟩), .int .u64 x] w (RetRE (if (chkB (cfO S) (adO S) 1 1 x 8 && U.M.hasV x 8) = true then U.M.readV B.F x 8 else 0) (chkB (cfO S) (adO S) 1 1 x 8 && U.M.hasV x 8) w) := by
  have q1 : ∀ dd os, Calls Tryz.prog 45 #[.agg (u8s (cfO S)), .agg (u64s (adO S)), .int .i64 1, .int .i64 1, .int .u64 x, .int .i64 8] (grow (redrawn w dd) os) fun e w'' => e = .returned (.bool (chkB (cfO S) (adO S) 1 1 x 8)) ∧ ∃ p : Regrown, w'' = grow (redrawn w p.d) p.os := fun dd os =>
    q_b (Check_c (cfO S) (adO S) 1 1 x 8 (Lib.hid hS.out.c) (Lib.hid hS.out.a) hx _ (Lib.hid (g_below hG.out (below_regrown w dd os) (g_lt hG.out))))
  have q2 : ∀ dd os, Calls Tryz.prog 59 #[.pointer (some ⟨b, 0, none⟩), .int .u64 x, .int .i64 8] (grow (redrawn w dd) os) fun e w'' => e = .returned (.bool (U.M.hasV x 8)) ∧ ∃ p : Regrown, w'' = grow (redrawn w p.d) p.os := fun dd os => by
    obtain ⟨R, W, q⟩ := hq.out.below (below_regrown w dd os)
    exact q_b (U.plain_q q x 8 hx.out)
  have q3 : Hid (U.M.hasV x 8 = true → ∀ u, Below w.heap.size w u → Calls Tryz.prog 60 #[.pointer (some ⟨b, 0, none⟩), .int .i64 1, .int .u64 x, .int .i64 8] u (RetRE (U.M.readV B.F x 8) true u)) := fun hh u hb => by
    obtain ⟨R, W, q⟩ := hq.out.below hb
    exact U.read_ram q 1 (Or.inl rfl) x 8 hx.out hh
  generalize chkB (cfO S) (adO S) 1 1 x 8 = k1 at *
  generalize U.M.readV B.F x 8 = v at *
  generalize U.M.hasV x 8 = k2 at *
  cases k1 <;> cases k2
  all_goals
    go_enter Tryz.func30, Tryz.ntmps30
    go_wp2_with fail
    refine wp_region_quiet_below (by kernel_rfl) (by kernel_rfl) ?_
    repeat (first
      | go_big_quiet_skip
      | (go_big_quiet_want; first
          | (refine quiet_load_part 24 _ rfl c 22 rfl 27 (cs S) (u8s (cfO S)) _ hr.out (cs_cfg S) Tryz.underlying24 rfl (info8c _) ?_; simp only [Act.put, List.setIfInBounds_toArray, List.set_cons_succ, List.set_cons_zero]; go_big_quiet_on)
          | (refine quiet_load_part 25 _ rfl c 30 rfl 27 (cs S) (u64s (adO S)) _ hr.out (cs_adr S) Tryz.underlying25 rfl (info8a _) ?_; simp only [Act.put, List.setIfInBounds_toArray, List.set_cons_succ, List.set_cons_zero]; go_big_quiet_on)
          | (go_big_quiet_op; first | go_big_quiet_on | go_big_quiet_call ((first | (go_at_call 45; exact q1 _ _) | (go_at_call 59; exact q2 _ _))))))
    refine wpQuiet_nil ?_
    intro _ hw'
    obtain ⟨⟨dq, osq⟩, hw''⟩ := hw'
    subst hw''
    have HB := Lib.hid (below_regrown w dq osq)
    generalize grow (redrawn w dq) osq = w5 at HB ⊢
  · clear q1 q2
    go_wp2_with fail
    go_ret2
    exact retRE_mk rfl rfl HB.out
  · clear q1 q2
    go_wp2_with fail
    go_ret2
    exact retRE_mk rfl rfl HB.out
  · clear q1 q2
    go_wp2_with fail
    go_ret2
    exact retRE_mk rfl rfl HB.out
  · have Q := Lib.hid (q3.out (by trivial) w5 HB.out)
    clear q1 q2 q3
    go_wp2_with fail
    refine Q.out.mono ?_
    rintro e w6 ⟨rfl, hb⟩
    replace HB := Lib.hid (below_step hb HB.out HB.out.size)
    clear hb Q
    go_wp2_with fail
    go_ret2
    exact retRE_mk rfl rfl HB.out
end Go.Proofs.YthhlcchofilimaaGreatDoor
