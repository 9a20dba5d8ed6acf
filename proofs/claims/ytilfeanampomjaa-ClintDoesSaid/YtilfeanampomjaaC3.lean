/- The walk of ClintRings. -/
import Derived.Test.YtilfeanampomjaaF1
import Derived.Test.YtilfeanampomjaaF2
namespace Go.Proofs.Ytilfeanampomjaa
open Go.ChangeShapes Go.WideShapes Go.ChangeAt Go.RowKit
set_option linter.unusedVariables false
set_option linter.unusedSimpArgs false
theorem pen_no {s a t : Nat} (h : t < a) : penV s a t = s * 8 := by unfold penV; rw [if_neg (by omega)]; rfl
theorem pen_yes {s a t : Nat} (h : a ≤ t) : penV s a t = s * 8 + 128 := by unfold penV; rw [if_pos h]
set_option maxRecDepth 100000 in
set_option maxHeartbeats 1000000 in
theorem rings_core (x y z st ah sb al e8 f8 t1 t2 : Nat) (X1 : (x : Int) % 4611686018427387904 = (st : Int)) (Y1 : (y : Int) % 300 = (ah : Int)) (Z1 : (z : Int) % 2 = (sb : Int))
    (A1 : IntKind.u64.wrap ((st : Int) + (ah : Int)) = (al : Int)) (S8 : IntKind.u64.wrap ((sb : Int) * 8) = (e8 : Int)) (S9 : IntKind.u64.wrap ((e8 : Int) + 128) = (f8 : Int)) (T1 : IntKind.u64.wrap ((al : Int) + 1) = (t1 : Int)) (T2 : IntKind.u64.wrap ((t1 : Int) + 1) = (t2 : Int))
    (H : Hid (st < 4611686018427387904 ∧ ah < 300 ∧ sb < 2 ∧ al = st + ah ∧ e8 = sb * 8 ∧ f8 = sb * 8 + 128 ∧ t1 = al + 1 ∧ t2 = t1 + 1 ∧ z < 18446744073709551616 ∧ z % 2 = sb)) (w : World) :
    Calls Try.prog 4 #[.int .u64 x, .int .u64 y, .int .u64 z] w (RetB true w) := by
  have la : Hid (al < 18446744073709551616) := by have := H.out; show _ < _; omega
  have ls : Hid (st < 18446744073709551616) := by have := H.out; show _ < _; omega
  have l1 : Hid (t1 < 18446744073709551616) := by have := H.out; show _ < _; omega
  have l2 : Hid (t2 < 18446744073709551616) := by have := H.out; show _ < _; omega
  have lz : Hid (z < 18446744073709551616) := by have := H.out; show _ < _; omega
  have lb : Hid (sb < 2) := by have := H.out; show _ < _; omega
  go_enter Try.func4, Try.ntmps4
  go_wp2_with fail
  refine (fixed_c _).mono ?_; rintro e0 w1 ⟨rfl, bq⟩
  have HB := Lib.hid bq; clear bq
  go_wp2_with fail
  refine (new_c _).mono ?_; rintro e0 w2 ⟨c, rfl, gc, hc, bq⟩
  have Gc : Hid (w.heap.size ≤ c) := Nat.le_trans HB.out.size gc
  have Hc := Lib.hid hc; clear gc hc
  replace HB := Lib.hid (HB.out.trans (bq.mono HB.out.size)); clear bq
  go_wp2_with fail
  refine ((write_5 _ c 0 18446744073709551615 0 Hc.out (by decide) (by decide) (by decide) st ls.out).mono (fun _ _ h => retW_to (x' := 0) (y' := 18446744073709551615) (z' := st) rfl rfl rfl h)).mono ?_; rintro e0 w3 ⟨rfl, h1, hg⟩
  replace Hc : Hid (IsC w3 c (0) (18446744073709551615) (st)) := h1; clear h1
  replace HB := Lib.hid (HB.out.grown hg HB.out.size (fun k hk => by cases hk; exact Gc.out)); clear hg
  go_wp2_with fail
  refine ((write_2 _ c 0 18446744073709551615 st Hc.out (by decide) (by decide) ls.out al la.out).mono (fun _ _ h => retW_to (x' := 0) (y' := al) (z' := st) rfl rfl rfl h)).mono ?_; rintro e0 w4 ⟨rfl, h1, hg⟩
  replace Hc : Hid (IsC w4 c (0) (al) (st)) := h1; clear h1
  replace HB := Lib.hid (HB.out.grown hg HB.out.size (fun k hk => by cases hk; exact Gc.out)); clear hg
  go_wp2_with fail
  refine ((write_1 _ c 0 al st Hc.out (by decide) la.out ls.out z lz.out).mono (fun _ _ h => retW_to (x' := sb) (y' := al) (z' := st) H.out.2.2.2.2.2.2.2.2.2 rfl rfl h)).mono ?_; rintro e0 w5 ⟨rfl, h1, hg⟩
  replace Hc : Hid (IsC w5 c (sb) (al) (st)) := h1; clear h1
  replace HB := Lib.hid (HB.out.grown hg HB.out.size (fun k hk => by cases hk; exact Gc.out)); clear hg
  go_wp2_with fail
  go_loopw [8] (fun i wr => ∃ k : Nat, k ≤ ah ∧ i = .int .u64 k ∧ Hid (IsC wr c sb al (st + k)) ∧ Hid (Below w.heap.size w wr)) (fun i _ => ah - (intOf i).toNat)
  case atStart => exact ⟨0, Nat.zero_le _, rfl, Hc, HB⟩
  case round =>
    obtain ⟨k, hk, rfl, Hc, HB⟩ := hrel
    by_cases hd : k < ah
    · obtain ⟨tk, htk⟩ : ∃ tk, st + k = tk := ⟨_, rfl⟩
      have TK : IntKind.u64.wrap ((st : Int) + (k : Int)) = (tk : Int) := by have := H.out; rw [IntKind.wrap_u64]; omega
      have lk : Hid (tk < al) := by have := H.out; show _ < _; omega
      have lw : Hid (tk < 18446744073709551616) := by have := H.out; show _ < _; omega
      have kk : IntKind.u64.wrap ((k : Int) + 1) = (k : Int) + 1 := by have := H.out; rw [IntKind.wrap_u64]; omega
      rw [htk] at Hc
      have HTK := Lib.hid htk; clear htk
      go_wp2_with fail
      refine ((pend_c _ c sb al tk Hc.out lb.out).mono (fun _ _ h => retU_to (n' := e8) ((pen_no lk.out).trans H.out.2.2.2.2.1.symm) h)).mono ?_; rintro e0 w1 ⟨rfl, bq⟩
      replace Hc := Lib.hid (Hc.out.below bq)
      replace HB := Lib.hid (HB.out.trans (bq.mono HB.out.size)); clear bq
      go_wp2_with fail
      refine (time_c _ c sb al tk Hc.out).mono ?_; rintro e0 w2 ⟨rfl, bq⟩
      replace Hc := Lib.hid (Hc.out.below bq)
      replace HB := Lib.hid (HB.out.trans (bq.mono HB.out.size)); clear bq
      go_wp2_with fail
      refine ((tick_c _ c sb al tk Hc.out lw.out).mono (fun _ _ h => retT_to (z' := st + (k + 1)) (by have := HTK.out; have := H.out; have := lk.out; omega) h)).mono ?_; rintro e0 w3 ⟨rfl, h1, hg⟩
      replace Hc : Hid (IsC w3 c (sb) (al) (st + (k + 1))) := h1; clear h1
      replace HB := Lib.hid (HB.out.grown hg HB.out.size (fun k hk => by cases hk; exact Gc.out)); clear hg
      go_wp2_with fail
      go_roundw
      case rel => exact ⟨k + 1, by omega, by first | rfl | (congr 1; omega) | (congr 1; simp), Hc, HB⟩
      case measure => first | (simp [intOf]; done) | (simp [intOf]; omega)
    · obtain rfl : k = ah := by omega
      have eal : st + k = al := H.out.2.2.2.1.symm
      rw [eal] at Hc; clear eal
      go_wp2_with fail
      refine ((pend_c _ c sb al al Hc.out lb.out).mono (fun _ _ h => retU_to (n' := f8) ((pen_yes (Nat.le_refl _)).trans H.out.2.2.2.2.2.1.symm) h)).mono ?_; rintro e0 w1 ⟨rfl, bq⟩
      replace Hc := Lib.hid (Hc.out.below bq)
      replace HB := Lib.hid (HB.out.trans (bq.mono HB.out.size)); clear bq
      go_wp2_with fail
      refine ((tick_c _ c sb al al Hc.out la.out).mono (fun _ _ h => retT_to (z' := t1) (by have := H.out; omega) h)).mono ?_; rintro e0 w2 ⟨rfl, h1, hg⟩
      replace Hc : Hid (IsC w2 c (sb) (al) (t1)) := h1; clear h1
      replace HB := Lib.hid (HB.out.grown hg HB.out.size (fun k hk => by cases hk; exact Gc.out)); clear hg
      go_wp2_with fail
      refine ((read_5 _ c sb al t1 Hc.out lb.out la.out l1.out).mono (fun _ _ h => retR_to (n' := t1) rfl h)).mono ?_; rintro e0 w3 ⟨rfl, bq⟩
      replace Hc := Lib.hid (Hc.out.below bq)
      replace HB := Lib.hid (HB.out.trans (bq.mono HB.out.size)); clear bq
      go_wp2_with fail
      refine ((pend_c _ c sb al t1 Hc.out lb.out).mono (fun _ _ h => retU_to (n' := f8) ((pen_yes (by have := H.out; omega)).trans H.out.2.2.2.2.2.1.symm) h)).mono ?_; rintro e0 w4 ⟨rfl, bq⟩
      replace Hc := Lib.hid (Hc.out.below bq)
      replace HB := Lib.hid (HB.out.trans (bq.mono HB.out.size)); clear bq
      go_wp2_with fail
      refine ((write_2 _ c sb al t1 Hc.out lb.out la.out l1.out t2 l2.out).mono (fun _ _ h => retW_to (x' := sb) (y' := t2) (z' := t1) rfl rfl rfl h)).mono ?_; rintro e0 w5 ⟨rfl, h1, hg⟩
      replace Hc : Hid (IsC w5 c (sb) (t2) (t1)) := h1; clear h1
      replace HB := Lib.hid (HB.out.grown hg HB.out.size (fun k hk => by cases hk; exact Gc.out)); clear hg
      go_wp2_with fail
      refine ((pend_c _ c sb t2 t1 Hc.out lb.out).mono (fun _ _ h => retU_to (n' := e8) ((pen_no (by have := H.out; omega)).trans H.out.2.2.2.2.1.symm) h)).mono ?_; rintro e0 w6 ⟨rfl, bq⟩
      replace Hc := Lib.hid (Hc.out.below bq)
      replace HB := Lib.hid (HB.out.trans (bq.mono HB.out.size)); clear bq
      go_wp2_with fail
      go_ret
      exact retB_mk rfl HB.out
theorem clintRings_walk (a0 a1 a2 : Int) (w0 : (Lit.int .u64 a0).wf = true) (w1 : (Lit.int .u64 a1).wf = true) (w2 : (Lit.int .u64 a2).wf = true) (w : World) : Calls Try.prog 4 #[.int .u64 a0, .int .u64 a1, .int .u64 a2] w (RetB true w) := by
  obtain ⟨x, rfl, hx⟩ := u64_of_wf w0
  obtain ⟨y, rfl, hy⟩ := u64_of_wf w1
  obtain ⟨z, rfl, hz⟩ := u64_of_wf w2
  have h1 : x % 4611686018427387904 < 4611686018427387904 := Nat.mod_lt _ (by decide)
  have h2 : y % 300 < 300 := Nat.mod_lt _ (by decide)
  have h3 : z % 2 < 2 := Nat.mod_lt _ (by decide)
  refine rings_core x y z (x % 4611686018427387904) (y % 300) (z % 2) (x % 4611686018427387904 + y % 300) (z % 2 * 8) (z % 2 * 8 + 128) (x % 4611686018427387904 + y % 300 + 1) (x % 4611686018427387904 + y % 300 + 1 + 1) (by omega) (by omega) (by omega) ?_ ?_ ?_ ?_ ?_ (Lib.hid ⟨h1, h2, h3, rfl, rfl, rfl, rfl, rfl, hz.out, rfl⟩) w
  all_goals (rw [IntKind.wrap_u64]; omega)
end Go.Proofs.Ytilfeanampomjaa
