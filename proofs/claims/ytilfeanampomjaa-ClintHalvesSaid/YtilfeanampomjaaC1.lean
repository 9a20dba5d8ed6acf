/- The walk of ClintHalves. -/
import Derived.Test.YtilfeanampomjaaF1
import Derived.Test.YtilfeanampomjaaF2
namespace Go.Proofs.Ytilfeanampomjaa
open Go.ChangeShapes Go.WideShapes Go.ChangeAt Go.RowKit
set_option linter.unusedVariables false
set_option linter.unusedSimpArgs false
theorem rhi_eq (v x : Nat) (hx : x < 4294967296) : bits .or .u64 (IntKind.u64.wrap ((v : Int) / 4294967296 * 4294967296)) (x : Int) = ((v / 4294967296 % 4294967296 * 4294967296 + x : Nat) : Int) := by
  rw [IntKind.wrap_u64, show (v : Int) / 4294967296 * 4294967296 % 18446744073709551616 = ((v / 4294967296 % 4294967296 * 4294967296 : Nat) : Int) by omega, u64_or_nat _ _ (by omega) (by omega)]
  congr 1
  have := Nat.two_pow_add_eq_or_of_lt (i := 32) (b := x) hx (v / 4294967296 % 4294967296)
  rw [Nat.mul_comm] at this
  exact this.symm
theorem rlo_eq (v x : Nat) (hx : x < 4294967296) : bits .or .u64 (IntKind.u64.wrap ((v : Int) * 4294967296)) (x : Int) = ((v % 4294967296 * 4294967296 + x : Nat) : Int) := by
  rw [IntKind.wrap_u64, show (v : Int) * 4294967296 % 18446744073709551616 = ((v % 4294967296 * 4294967296 : Nat) : Int) by omega, u64_or_nat _ _ (by omega) (by omega)]
  congr 1
  have := Nat.two_pow_add_eq_or_of_lt (i := 32) (b := x) hx (v % 4294967296)
  rw [Nat.mul_comm] at this
  exact this.symm
set_option maxRecDepth 100000 in
theorem halves_walk (v x : Nat) (hv : Hid (v < 18446744073709551616)) (hx : Hid (x < 18446744073709551616)) (al : Bool) (w : World) : Calls Try.prog 5 #[.int .u64 v, .int .u64 x, .bool al] w (RetB true w) := by
  obtain ⟨lo, hlo⟩ : ∃ lo, v % 4294967296 = lo := ⟨_, rfl⟩
  obtain ⟨hi, hhi⟩ : ∃ hi, v / 4294967296 = hi := ⟨_, rfl⟩
  obtain ⟨xl, hxl⟩ : ∃ xl, x % 4294967296 = xl := ⟨_, rfl⟩
  obtain ⟨p, hp⟩ : ∃ p, loW v x = p := ⟨_, rfl⟩
  obtain ⟨q, hq⟩ : ∃ q, hiW p x = q := ⟨_, rfl⟩
  have HLO := Lib.hid hlo; have HHI := Lib.hid hhi; have HP := Lib.hid hp; have HQ := Lib.hid hq
  have lp : Hid (p < 18446744073709551616) := by rw [← hp]; exact lo_lt v x hv.out
  have lq : Hid (q < 18446744073709551616) := by rw [← hq]; exact hi_lt p x
  have E1 : bits .and .u64 (v : Int) 4294967295 = (lo : Int) := by rw [and32 v hv.out, hlo]
  have E2 : (v : Int) / 4294967296 = (hi : Int) := by rw [← hhi]; simp
  have E3 : bits .and .u64 (x : Int) 4294967295 = (xl : Int) := by rw [and32 x hx.out, hxl]
  have E4 : bits .or .u64 (IntKind.u64.wrap ((hi : Int) * 4294967296)) (xl : Int) = (p : Int) := by
    rw [← E2, rhi_eq v xl (by omega), ← hp, ← hxl, Nat.mod_eq_of_lt (show v / 4294967296 < 4294967296 by have := hv.out; omega)]; rfl
  have E5 : bits .or .u64 (IntKind.u64.wrap ((x : Int) * 4294967296)) (xl : Int) = (q : Int) := by
    rw [rlo_eq x xl (by omega), ← hq, ← hxl]; unfold hiW; rw [← hp]; unfold loW; rw [show (v / 4294967296 * 4294967296 + x % 4294967296) % 4294967296 = x % 4294967296 by omega]
  clear hlo hhi hxl hp hq
  cases al
  · go_enter Try.func5, Try.ntmps5
    go_wp2_with fail
    refine (fixed_c _).mono ?_; rintro e0 w1 ⟨rfl, bq⟩
    have HB := Lib.hid bq; clear bq
    go_wp2_with fail
    refine (new_c _).mono ?_; rintro e0 w2 ⟨c, rfl, gc, hc, bq⟩
    have Gc : Hid (w.heap.size ≤ c) := Nat.le_trans HB.out.size gc
    have Hc := Lib.hid hc; clear gc hc
    replace HB := Lib.hid (HB.out.trans (bq.mono HB.out.size)); clear bq
    go_wp2_with fail
    refine ((write_5 _ c 0 18446744073709551615 0 Hc.out (by decide) (by decide) (by decide) v hv.out).mono (fun _ _ h => retW_to (x' := 0) (y' := 18446744073709551615) (z' := v) rfl rfl rfl h)).mono ?_; rintro e0 w3 ⟨rfl, h1, hg⟩
    replace Hc : Hid (IsC w3 c (0) (18446744073709551615) (v)) := h1; clear h1
    replace HB := Lib.hid (HB.out.grown hg HB.out.size (fun k hk => by cases hk; exact Gc.out)); clear hg
    go_wp2_with fail
    refine ((read_6 _ c 0 18446744073709551615 v Hc.out (by decide) (by decide) hv.out).mono (fun _ _ h => retR_to (n' := lo) HLO.out h)).mono ?_; rintro e0 w4 ⟨rfl, bq⟩
    replace Hc := Lib.hid (Hc.out.below bq)
    replace HB := Lib.hid (HB.out.trans (bq.mono HB.out.size)); clear bq
    go_wp2_with fail
    refine ((read_7 _ c 0 18446744073709551615 v Hc.out (by decide) (by decide) hv.out).mono (fun _ _ h => retR_to (n' := hi) HHI.out h)).mono ?_; rintro e0 w5 ⟨rfl, bq⟩
    replace Hc := Lib.hid (Hc.out.below bq)
    replace HB := Lib.hid (HB.out.trans (bq.mono HB.out.size)); clear bq
    go_wp2_with fail
    refine ((write_6 _ c 0 18446744073709551615 v Hc.out (by decide) (by decide) hv.out x hx.out).mono (fun _ _ h => retW_to (x' := 0) (y' := 18446744073709551615) (z' := p) rfl rfl HP.out h)).mono ?_; rintro e0 w6 ⟨rfl, h1, hg⟩
    replace Hc : Hid (IsC w6 c (0) (18446744073709551615) (p)) := h1; clear h1
    replace HB := Lib.hid (HB.out.grown hg HB.out.size (fun k hk => by cases hk; exact Gc.out)); clear hg
    go_wp2_with fail
    refine ((read_5 _ c 0 18446744073709551615 p Hc.out (by decide) (by decide) lp.out).mono (fun _ _ h => retR_to (n' := p) rfl h)).mono ?_; rintro e0 w7 ⟨rfl, bq⟩
    replace Hc := Lib.hid (Hc.out.below bq)
    replace HB := Lib.hid (HB.out.trans (bq.mono HB.out.size)); clear bq
    go_wp2_with fail
    refine ((write_7 _ c 0 18446744073709551615 p Hc.out (by decide) (by decide) lp.out x hx.out).mono (fun _ _ h => retW_to (x' := 0) (y' := 18446744073709551615) (z' := q) rfl rfl HQ.out h)).mono ?_; rintro e0 w8 ⟨rfl, h1, hg⟩
    replace Hc : Hid (IsC w8 c (0) (18446744073709551615) (q)) := h1; clear h1
    replace HB := Lib.hid (HB.out.grown hg HB.out.size (fun k hk => by cases hk; exact Gc.out)); clear hg
    go_wp2_with fail
    refine ((read_5 _ c 0 18446744073709551615 q Hc.out (by decide) (by decide) lq.out).mono (fun _ _ h => retR_to (n' := q) rfl h)).mono ?_; rintro e0 w9 ⟨rfl, bq⟩
    replace Hc := Lib.hid (Hc.out.below bq)
    replace HB := Lib.hid (HB.out.trans (bq.mono HB.out.size)); clear bq
    go_wp2_with fail
    go_ret
    exact retB_mk rfl HB.out
  · go_enter Try.func5, Try.ntmps5
    go_wp2_with fail
    refine (fixed_c _).mono ?_; rintro e0 w1 ⟨rfl, bq⟩
    have HB := Lib.hid bq; clear bq
    go_wp2_with fail
    refine (new_c _).mono ?_; rintro e0 w2 ⟨c, rfl, gc, hc, bq⟩
    have Gc : Hid (w.heap.size ≤ c) := Nat.le_trans HB.out.size gc
    have Hc := Lib.hid hc; clear gc hc
    replace HB := Lib.hid (HB.out.trans (bq.mono HB.out.size)); clear bq
    go_wp2_with fail
    refine ((write_2 _ c 0 18446744073709551615 0 Hc.out (by decide) (by decide) (by decide) v hv.out).mono (fun _ _ h => retW_to (x' := 0) (y' := v) (z' := 0) rfl rfl rfl h)).mono ?_; rintro e0 w3 ⟨rfl, h1, hg⟩
    replace Hc : Hid (IsC w3 c (0) (v) (0)) := h1; clear h1
    replace HB := Lib.hid (HB.out.grown hg HB.out.size (fun k hk => by cases hk; exact Gc.out)); clear hg
    go_wp2_with fail
    refine ((read_3 _ c 0 v 0 Hc.out (by decide) hv.out (by decide)).mono (fun _ _ h => retR_to (n' := lo) HLO.out h)).mono ?_; rintro e0 w4 ⟨rfl, bq⟩
    replace Hc := Lib.hid (Hc.out.below bq)
    replace HB := Lib.hid (HB.out.trans (bq.mono HB.out.size)); clear bq
    go_wp2_with fail
    refine ((read_4 _ c 0 v 0 Hc.out (by decide) hv.out (by decide)).mono (fun _ _ h => retR_to (n' := hi) HHI.out h)).mono ?_; rintro e0 w5 ⟨rfl, bq⟩
    replace Hc := Lib.hid (Hc.out.below bq)
    replace HB := Lib.hid (HB.out.trans (bq.mono HB.out.size)); clear bq
    go_wp2_with fail
    refine ((write_3 _ c 0 v 0 Hc.out (by decide) hv.out (by decide) x hx.out).mono (fun _ _ h => retW_to (x' := 0) (y' := p) (z' := 0) rfl HP.out rfl h)).mono ?_; rintro e0 w6 ⟨rfl, h1, hg⟩
    replace Hc : Hid (IsC w6 c (0) (p) (0)) := h1; clear h1
    replace HB := Lib.hid (HB.out.grown hg HB.out.size (fun k hk => by cases hk; exact Gc.out)); clear hg
    go_wp2_with fail
    refine ((read_2 _ c 0 p 0 Hc.out (by decide) lp.out (by decide)).mono (fun _ _ h => retR_to (n' := p) rfl h)).mono ?_; rintro e0 w7 ⟨rfl, bq⟩
    replace Hc := Lib.hid (Hc.out.below bq)
    replace HB := Lib.hid (HB.out.trans (bq.mono HB.out.size)); clear bq
    go_wp2_with fail
    refine ((write_4 _ c 0 p 0 Hc.out (by decide) lp.out (by decide) x hx.out).mono (fun _ _ h => retW_to (x' := 0) (y' := q) (z' := 0) rfl HQ.out rfl h)).mono ?_; rintro e0 w8 ⟨rfl, h1, hg⟩
    replace Hc : Hid (IsC w8 c (0) (q) (0)) := h1; clear h1
    replace HB := Lib.hid (HB.out.grown hg HB.out.size (fun k hk => by cases hk; exact Gc.out)); clear hg
    go_wp2_with fail
    refine ((read_2 _ c 0 q 0 Hc.out (by decide) lq.out (by decide)).mono (fun _ _ h => retR_to (n' := q) rfl h)).mono ?_; rintro e0 w9 ⟨rfl, bq⟩
    replace Hc := Lib.hid (Hc.out.below bq)
    replace HB := Lib.hid (HB.out.trans (bq.mono HB.out.size)); clear bq
    go_wp2_with fail
    go_ret
    exact retB_mk rfl HB.out
end Go.Proofs.Ytilfeanampomjaa
