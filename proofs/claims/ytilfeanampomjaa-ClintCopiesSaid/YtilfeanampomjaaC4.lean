/- The walk of ClintCopies. -/
import Derived.Test.YtilfeanampomjaaC3
namespace Go.Proofs.Ytilfeanampomjaa
open Go.ChangeShapes Go.WideShapes Go.ChangeAt Go.RowKit
set_option linter.unusedVariables false
set_option linter.unusedSimpArgs false
set_option maxRecDepth 100000 in
set_option maxHeartbeats 1000000 in
theorem copies_core0 (tm al z sb n tn x1 s2 : Nat) (ti r : Int) (R1 : ti.tmod 100 = r) (RN : r = (n : Int))
    (Z1 : bits .and .u64 (z : Int) 1 = (sb : Int)) (N1 : IntKind.u64.wrap (n : Int) = (n : Int)) (T1 : IntKind.u64.wrap ((tm : Int) + (n : Int)) = (tn : Int)) (X1 : IntKind.u64.wrap ((z : Int) + 1) = (x1 : Int))
    (H : Hid (tm < 18446744073709551616 ∧ al < 18446744073709551616 ∧ z < 18446744073709551616 ∧ sb < 2 ∧ n < 100 ∧ tn = (tm + n) % 18446744073709551616 ∧ x1 < 18446744073709551616 ∧ z % 2 = sb ∧ tn < 18446744073709551616)) (w : World) :
    Calls Try.prog 7 #[.int .u64 tm, .int .u64 al, .int .u64 z, .int .i64 ti] w (RetB true w) := by
  have lt : Hid (tm < 18446744073709551616) := H.out.1
  have la : Hid (al < 18446744073709551616) := H.out.2.1
  have lz : Hid (z < 18446744073709551616) := H.out.2.2.1
  have lb : Hid (sb < 2) := H.out.2.2.2.1
  have ln : Hid (tn < 18446744073709551616) := H.out.2.2.2.2.2.2.2.2
  have lx : Hid (x1 < 18446744073709551616) := H.out.2.2.2.2.2.2.1
  subst RN
  go_enter Try.func7, Try.ntmps7
  go_wp2_with fail
  refine (fixed_c _).mono ?_; rintro e0 w1 ⟨rfl, bq⟩
  have HB := Lib.hid bq; clear bq
  go_wp2_with fail
  refine (new_c _).mono ?_; rintro e0 w2 ⟨c, rfl, gc, hc, bq⟩
  have Gc : Hid (w.heap.size ≤ c) := Nat.le_trans HB.out.size gc
  have Hc := Lib.hid hc; clear gc hc
  replace HB := Lib.hid (HB.out.trans (bq.mono HB.out.size)); clear bq
  go_wp2_with fail
  refine ((write_5 _ c 0 18446744073709551615 0 Hc.out (by decide) (by decide) (by decide) tm lt.out).mono (fun _ _ h => retW_to (x' := 0) (y' := 18446744073709551615) (z' := tm) rfl rfl rfl h)).mono ?_; rintro e0 w3 ⟨rfl, h1, hg⟩
  replace Hc : Hid (IsC w3 c (0) (18446744073709551615) (tm)) := h1; clear h1
  replace HB := Lib.hid (HB.out.grown hg HB.out.size (fun k hk => by cases hk; exact Gc.out)); clear hg
  go_wp2_with fail
  refine ((write_2 _ c 0 18446744073709551615 tm Hc.out (by decide) (by decide) lt.out al la.out).mono (fun _ _ h => retW_to (x' := 0) (y' := al) (z' := tm) rfl rfl rfl h)).mono ?_; rintro e0 w4 ⟨rfl, h1, hg⟩
  replace Hc : Hid (IsC w4 c (0) (al) (tm)) := h1; clear h1
  replace HB := Lib.hid (HB.out.grown hg HB.out.size (fun k hk => by cases hk; exact Gc.out)); clear hg
  go_wp2_with fail
  refine ((write_1 _ c 0 al tm Hc.out (by decide) la.out lt.out z lz.out).mono (fun _ _ h => retW_to (x' := sb) (y' := al) (z' := tm) H.out.2.2.2.2.2.2.2.1 rfl rfl h)).mono ?_; rintro e0 w5 ⟨rfl, h1, hg⟩
  replace Hc : Hid (IsC w5 c (sb) (al) (tm)) := h1; clear h1
  replace HB := Lib.hid (HB.out.grown hg HB.out.size (fun k hk => by cases hk; exact Gc.out)); clear hg
  go_wp2_with fail
  refine (copy_c _ c sb al tm Hc.out).mono ?_; rintro e0 w6 ⟨o, rfl, go, ho, bq⟩
  have Nco : Hid (c ≠ o) := by have := Hc.out.1; show _ ≠ _; omega
  have Noc : Hid (o ≠ c) := by have := Hc.out.1; show _ ≠ _; omega
  replace Hc := Lib.hid (Hc.out.below bq)
  have Go : Hid (w.heap.size ≤ o) := Nat.le_trans HB.out.size go
  have Ho := Lib.hid ho; clear ho go
  replace HB := Lib.hid (HB.out.trans (bq.mono HB.out.size)); clear bq
  go_wp2_with fail
  go_loopw [12] (fun i wr => ∃ k : Nat, k ≤ n ∧ i = .int .i64 k ∧ Hid (IsC wr c sb al ((tm + k) % 18446744073709551616)) ∧ Hid (IsC wr o sb al tm) ∧ Hid (Below w.heap.size w wr)) (fun i _ => n - (intOf i).toNat)
  case atStart => exact ⟨0, Nat.zero_le _, rfl, (by rw [Nat.add_zero, Nat.mod_eq_of_lt lt.out]; exact Hc), Ho, HB⟩
  case round =>
    obtain ⟨k, hk, rfl, Hc, Ho, HB⟩ := hrel
    have hn100 : n < 100 := H.out.2.2.2.2.1
    by_cases hd : k < n
    · obtain ⟨tk, htk⟩ : ∃ tk, (tm + k) % 18446744073709551616 = tk := ⟨_, rfl⟩
      rw [htk] at Hc; have HTK := Lib.hid htk; clear htk
      have lk : Hid (tk < 18446744073709551616) := by have := HTK.out; show _ < _; omega
      go_wp2_with fail
      refine ((tick_c _ c sb al tk Hc.out lk.out).mono (fun _ _ h => retT_to (z' := (tm + (k + 1)) % 18446744073709551616) (by have := HTK.out; omega) h)).mono ?_; rintro e0 w1 ⟨rfl, h1, hg⟩
      replace Ho := Lib.hid (Ho.out.kept hg (by have := Noc.out; simp; omega))
      replace Hc : Hid (IsC w1 c (sb) (al) ((tm + (k + 1)) % 18446744073709551616)) := h1; clear h1
      replace HB := Lib.hid (HB.out.grown hg HB.out.size (fun k hk => by cases hk; exact Gc.out)); clear hg
      go_wp2_with fail
      go_roundw
      case rel => exact ⟨k + 1, by omega, by first | rfl | (congr 1; omega) | (congr 1; simp), Hc, Ho, HB⟩
      case measure => first | (simp [intOf]; done) | (simp [intOf]; omega)
    · obtain rfl : n = k := by omega
      rw [← H.out.2.2.2.2.2.1] at Hc
      clear hn100
      go_wp2_with fail
      refine (time_c _ o sb al tm Ho.out).mono ?_; rintro e0 w1 ⟨rfl, bq⟩
      replace Hc := Lib.hid (Hc.out.below bq)
      replace Ho := Lib.hid (Ho.out.below bq)
      replace HB := Lib.hid (HB.out.trans (bq.mono HB.out.size)); clear bq
      go_wp2_with fail
      refine (time_c _ c sb al tn Hc.out).mono ?_; rintro e0 w2 ⟨rfl, bq⟩
      replace Hc := Lib.hid (Hc.out.below bq)
      replace Ho := Lib.hid (Ho.out.below bq)
      replace HB := Lib.hid (HB.out.trans (bq.mono HB.out.size)); clear bq
      go_wp2_with fail
      go_loopw [13] (fun i wr => ∃ k : Nat, k ≤ n ∧ i = .int .i64 k ∧ Hid (IsC wr o sb al ((tm + k) % 18446744073709551616)) ∧ Hid (IsC wr c sb al tn) ∧ Hid (Below w.heap.size w wr)) (fun i _ => n - (intOf i).toNat)
      case atStart => exact ⟨0, Nat.zero_le _, rfl, (by rw [Nat.add_zero, Nat.mod_eq_of_lt lt.out]; exact Ho), Hc, HB⟩
      case round =>
        obtain ⟨k, hk, rfl, Ho, Hc, HB⟩ := hrel
        have hn100 : n < 100 := H.out.2.2.2.2.1
        by_cases hd : k < n
        · obtain ⟨tk, htk⟩ : ∃ tk, (tm + k) % 18446744073709551616 = tk := ⟨_, rfl⟩
          rw [htk] at Ho; have HTK := Lib.hid htk; clear htk
          have lk : Hid (tk < 18446744073709551616) := by have := HTK.out; show _ < _; omega
          go_wp2_with fail
          refine ((tick_c _ o sb al tk Ho.out lk.out).mono (fun _ _ h => retT_to (z' := (tm + (k + 1)) % 18446744073709551616) (by have := HTK.out; omega) h)).mono ?_; rintro e0 w1 ⟨rfl, h1, hg⟩
          replace Hc := Lib.hid (Hc.out.kept hg (by have := Nco.out; simp; omega))
          replace Ho : Hid (IsC w1 o (sb) (al) ((tm + (k + 1)) % 18446744073709551616)) := h1; clear h1
          replace HB := Lib.hid (HB.out.grown hg HB.out.size (fun k hk => by cases hk; exact Go.out)); clear hg
          go_wp2_with fail
          go_roundw
          case rel => exact ⟨k + 1, by omega, by first | rfl | (congr 1; omega) | (congr 1; simp), Ho, Hc, HB⟩
          case measure => first | (simp [intOf]; done) | (simp [intOf]; omega)
        · obtain rfl : n = k := by omega
          rw [← H.out.2.2.2.2.2.1] at Ho
          clear hn100
          go_wp2_with fail
          refine (time_c _ o sb al tn Ho.out).mono ?_; rintro e0 w1 ⟨rfl, bq⟩
          replace Ho := Lib.hid (Ho.out.below bq)
          replace Hc := Lib.hid (Hc.out.below bq)
          replace HB := Lib.hid (HB.out.trans (bq.mono HB.out.size)); clear bq
          go_wp2_with fail
          refine (time_c _ c sb al tn Hc.out).mono ?_; rintro e0 w2 ⟨rfl, bq⟩
          replace Ho := Lib.hid (Ho.out.below bq)
          replace Hc := Lib.hid (Hc.out.below bq)
          replace HB := Lib.hid (HB.out.trans (bq.mono HB.out.size)); clear bq
          go_wp2_with fail
          refine (pend_c _ o sb al tn Ho.out lb.out).mono ?_; rintro e0 w3 ⟨rfl, bq⟩
          replace Ho := Lib.hid (Ho.out.below bq)
          replace Hc := Lib.hid (Hc.out.below bq)
          replace HB := Lib.hid (HB.out.trans (bq.mono HB.out.size)); clear bq
          go_wp2_with fail
          refine (pend_c _ c sb al tn Hc.out lb.out).mono ?_; rintro e0 w4 ⟨rfl, bq⟩
          replace Ho := Lib.hid (Ho.out.below bq)
          replace Hc := Lib.hid (Hc.out.below bq)
          replace HB := Lib.hid (HB.out.trans (bq.mono HB.out.size)); clear bq
          go_wp2_with fail
          refine ((write_2 _ o sb al tn Ho.out lb.out la.out ln.out 0 (by decide)).mono (fun _ _ h => retW_to (x' := sb) (y' := 0) (z' := tn) rfl rfl rfl h)).mono ?_; rintro e0 w5 ⟨rfl, h1, hg⟩
          replace Hc := Lib.hid (Hc.out.kept hg (by have := Nco.out; simp; omega))
          replace Ho : Hid (IsC w5 o (sb) (0) (tn)) := h1; clear h1
          replace HB := Lib.hid (HB.out.grown hg HB.out.size (fun k hk => by cases hk; exact Go.out)); clear hg
          go_wp2_with fail
          refine (write_1 _ o sb 0 tn Ho.out lb.out (by decide) ln.out x1 lx.out).mono ?_; rintro e0 w6 ⟨rfl, h1, hg⟩
          replace Hc := Lib.hid (Hc.out.kept hg (by have := Nco.out; simp; omega))
          replace Ho : Hid (IsC w6 o (wrS 1 sb x1) (wrA 1 0 x1) (wrT 1 tn x1)) := h1; clear h1
          replace HB := Lib.hid (HB.out.grown hg HB.out.size (fun k hk => by cases hk; exact Go.out)); clear hg
          go_wp2_with fail
          refine ((read_2 _ c sb al tn Hc.out lb.out la.out ln.out).mono (fun _ _ h => retR_to (n' := al) rfl h)).mono ?_; rintro e0 w7 ⟨rfl, bq⟩
          replace Ho := Lib.hid (Ho.out.below bq)
          replace Hc := Lib.hid (Hc.out.below bq)
          replace HB := Lib.hid (HB.out.trans (bq.mono HB.out.size)); clear bq
          go_wp2_with fail
          refine ((read_1 _ c sb al tn Hc.out lb.out la.out ln.out).mono (fun _ _ h => retR_to (n' := sb) rfl h)).mono ?_; rintro e0 w8 ⟨rfl, bq⟩
          replace Ho := Lib.hid (Ho.out.below bq)
          replace Hc := Lib.hid (Hc.out.below bq)
          replace HB := Lib.hid (HB.out.trans (bq.mono HB.out.size)); clear bq
          go_wp2_with fail
          go_ret
          exact retB_mk rfl HB.out
set_option maxRecDepth 100000 in
set_option maxHeartbeats 1000000 in
theorem copies_core1 (tm al z sb n tn x1 s2 : Nat) (ti r : Int) (R1 : ti.tmod 100 = r) (RN : r < 0) (RM : IntKind.i64.wrap (-r) = (n : Int))
    (Z1 : bits .and .u64 (z : Int) 1 = (sb : Int)) (N1 : IntKind.u64.wrap (n : Int) = (n : Int)) (T1 : IntKind.u64.wrap ((tm : Int) + (n : Int)) = (tn : Int)) (X1 : IntKind.u64.wrap ((z : Int) + 1) = (x1 : Int))
    (H : Hid (tm < 18446744073709551616 ∧ al < 18446744073709551616 ∧ z < 18446744073709551616 ∧ sb < 2 ∧ n < 100 ∧ tn = (tm + n) % 18446744073709551616 ∧ x1 < 18446744073709551616 ∧ z % 2 = sb ∧ tn < 18446744073709551616)) (w : World) :
    Calls Try.prog 7 #[.int .u64 tm, .int .u64 al, .int .u64 z, .int .i64 ti] w (RetB true w) := by
  have lt : Hid (tm < 18446744073709551616) := H.out.1
  have la : Hid (al < 18446744073709551616) := H.out.2.1
  have lz : Hid (z < 18446744073709551616) := H.out.2.2.1
  have lb : Hid (sb < 2) := H.out.2.2.2.1
  have ln : Hid (tn < 18446744073709551616) := H.out.2.2.2.2.2.2.2.2
  have lx : Hid (x1 < 18446744073709551616) := H.out.2.2.2.2.2.2.1
  go_enter Try.func7, Try.ntmps7
  go_wp2_with fail
  refine (fixed_c _).mono ?_; rintro e0 w1 ⟨rfl, bq⟩
  have HB := Lib.hid bq; clear bq
  go_wp2_with fail
  refine (new_c _).mono ?_; rintro e0 w2 ⟨c, rfl, gc, hc, bq⟩
  have Gc : Hid (w.heap.size ≤ c) := Nat.le_trans HB.out.size gc
  have Hc := Lib.hid hc; clear gc hc
  replace HB := Lib.hid (HB.out.trans (bq.mono HB.out.size)); clear bq
  go_wp2_with fail
  refine ((write_5 _ c 0 18446744073709551615 0 Hc.out (by decide) (by decide) (by decide) tm lt.out).mono (fun _ _ h => retW_to (x' := 0) (y' := 18446744073709551615) (z' := tm) rfl rfl rfl h)).mono ?_; rintro e0 w3 ⟨rfl, h1, hg⟩
  replace Hc : Hid (IsC w3 c (0) (18446744073709551615) (tm)) := h1; clear h1
  replace HB := Lib.hid (HB.out.grown hg HB.out.size (fun k hk => by cases hk; exact Gc.out)); clear hg
  go_wp2_with fail
  refine ((write_2 _ c 0 18446744073709551615 tm Hc.out (by decide) (by decide) lt.out al la.out).mono (fun _ _ h => retW_to (x' := 0) (y' := al) (z' := tm) rfl rfl rfl h)).mono ?_; rintro e0 w4 ⟨rfl, h1, hg⟩
  replace Hc : Hid (IsC w4 c (0) (al) (tm)) := h1; clear h1
  replace HB := Lib.hid (HB.out.grown hg HB.out.size (fun k hk => by cases hk; exact Gc.out)); clear hg
  go_wp2_with fail
  refine ((write_1 _ c 0 al tm Hc.out (by decide) la.out lt.out z lz.out).mono (fun _ _ h => retW_to (x' := sb) (y' := al) (z' := tm) H.out.2.2.2.2.2.2.2.1 rfl rfl h)).mono ?_; rintro e0 w5 ⟨rfl, h1, hg⟩
  replace Hc : Hid (IsC w5 c (sb) (al) (tm)) := h1; clear h1
  replace HB := Lib.hid (HB.out.grown hg HB.out.size (fun k hk => by cases hk; exact Gc.out)); clear hg
  go_wp2_with fail
  refine (copy_c _ c sb al tm Hc.out).mono ?_; rintro e0 w6 ⟨o, rfl, go, ho, bq⟩
  have Nco : Hid (c ≠ o) := by have := Hc.out.1; show _ ≠ _; omega
  have Noc : Hid (o ≠ c) := by have := Hc.out.1; show _ ≠ _; omega
  replace Hc := Lib.hid (Hc.out.below bq)
  have Go : Hid (w.heap.size ≤ o) := Nat.le_trans HB.out.size go
  have Ho := Lib.hid ho; clear ho go
  replace HB := Lib.hid (HB.out.trans (bq.mono HB.out.size)); clear bq
  go_wp2_with fail
  go_loopw [12] (fun i wr => ∃ k : Nat, k ≤ n ∧ i = .int .i64 k ∧ Hid (IsC wr c sb al ((tm + k) % 18446744073709551616)) ∧ Hid (IsC wr o sb al tm) ∧ Hid (Below w.heap.size w wr)) (fun i _ => n - (intOf i).toNat)
  case atStart => exact ⟨0, Nat.zero_le _, rfl, (by rw [Nat.add_zero, Nat.mod_eq_of_lt lt.out]; exact Hc), Ho, HB⟩
  case round =>
    obtain ⟨k, hk, rfl, Hc, Ho, HB⟩ := hrel
    have hn100 : n < 100 := H.out.2.2.2.2.1
    by_cases hd : k < n
    · obtain ⟨tk, htk⟩ : ∃ tk, (tm + k) % 18446744073709551616 = tk := ⟨_, rfl⟩
      rw [htk] at Hc; have HTK := Lib.hid htk; clear htk
      have lk : Hid (tk < 18446744073709551616) := by have := HTK.out; show _ < _; omega
      go_wp2_with fail
      refine ((tick_c _ c sb al tk Hc.out lk.out).mono (fun _ _ h => retT_to (z' := (tm + (k + 1)) % 18446744073709551616) (by have := HTK.out; omega) h)).mono ?_; rintro e0 w1 ⟨rfl, h1, hg⟩
      replace Ho := Lib.hid (Ho.out.kept hg (by have := Noc.out; simp; omega))
      replace Hc : Hid (IsC w1 c (sb) (al) ((tm + (k + 1)) % 18446744073709551616)) := h1; clear h1
      replace HB := Lib.hid (HB.out.grown hg HB.out.size (fun k hk => by cases hk; exact Gc.out)); clear hg
      go_wp2_with fail
      go_roundw
      case rel => exact ⟨k + 1, by omega, by first | rfl | (congr 1; omega) | (congr 1; simp), Hc, Ho, HB⟩
      case measure => first | (simp [intOf]; done) | (simp [intOf]; omega)
    · obtain rfl : n = k := by omega
      rw [← H.out.2.2.2.2.2.1] at Hc
      clear hn100
      go_wp2_with fail
      refine (time_c _ o sb al tm Ho.out).mono ?_; rintro e0 w1 ⟨rfl, bq⟩
      replace Hc := Lib.hid (Hc.out.below bq)
      replace Ho := Lib.hid (Ho.out.below bq)
      replace HB := Lib.hid (HB.out.trans (bq.mono HB.out.size)); clear bq
      go_wp2_with fail
      refine (time_c _ c sb al tn Hc.out).mono ?_; rintro e0 w2 ⟨rfl, bq⟩
      replace Hc := Lib.hid (Hc.out.below bq)
      replace Ho := Lib.hid (Ho.out.below bq)
      replace HB := Lib.hid (HB.out.trans (bq.mono HB.out.size)); clear bq
      go_wp2_with fail
      go_loopw [13] (fun i wr => ∃ k : Nat, k ≤ n ∧ i = .int .i64 k ∧ Hid (IsC wr o sb al ((tm + k) % 18446744073709551616)) ∧ Hid (IsC wr c sb al tn) ∧ Hid (Below w.heap.size w wr)) (fun i _ => n - (intOf i).toNat)
      case atStart => exact ⟨0, Nat.zero_le _, rfl, (by rw [Nat.add_zero, Nat.mod_eq_of_lt lt.out]; exact Ho), Hc, HB⟩
      case round =>
        obtain ⟨k, hk, rfl, Ho, Hc, HB⟩ := hrel
        have hn100 : n < 100 := H.out.2.2.2.2.1
        by_cases hd : k < n
        · obtain ⟨tk, htk⟩ : ∃ tk, (tm + k) % 18446744073709551616 = tk := ⟨_, rfl⟩
          rw [htk] at Ho; have HTK := Lib.hid htk; clear htk
          have lk : Hid (tk < 18446744073709551616) := by have := HTK.out; show _ < _; omega
          go_wp2_with fail
          refine ((tick_c _ o sb al tk Ho.out lk.out).mono (fun _ _ h => retT_to (z' := (tm + (k + 1)) % 18446744073709551616) (by have := HTK.out; omega) h)).mono ?_; rintro e0 w1 ⟨rfl, h1, hg⟩
          replace Hc := Lib.hid (Hc.out.kept hg (by have := Nco.out; simp; omega))
          replace Ho : Hid (IsC w1 o (sb) (al) ((tm + (k + 1)) % 18446744073709551616)) := h1; clear h1
          replace HB := Lib.hid (HB.out.grown hg HB.out.size (fun k hk => by cases hk; exact Go.out)); clear hg
          go_wp2_with fail
          go_roundw
          case rel => exact ⟨k + 1, by omega, by first | rfl | (congr 1; omega) | (congr 1; simp), Ho, Hc, HB⟩
          case measure => first | (simp [intOf]; done) | (simp [intOf]; omega)
        · obtain rfl : n = k := by omega
          rw [← H.out.2.2.2.2.2.1] at Ho
          clear hn100
          go_wp2_with fail
          refine (time_c _ o sb al tn Ho.out).mono ?_; rintro e0 w1 ⟨rfl, bq⟩
          replace Ho := Lib.hid (Ho.out.below bq)
          replace Hc := Lib.hid (Hc.out.below bq)
          replace HB := Lib.hid (HB.out.trans (bq.mono HB.out.size)); clear bq
          go_wp2_with fail
          refine (time_c _ c sb al tn Hc.out).mono ?_; rintro e0 w2 ⟨rfl, bq⟩
          replace Ho := Lib.hid (Ho.out.below bq)
          replace Hc := Lib.hid (Hc.out.below bq)
          replace HB := Lib.hid (HB.out.trans (bq.mono HB.out.size)); clear bq
          go_wp2_with fail
          refine (pend_c _ o sb al tn Ho.out lb.out).mono ?_; rintro e0 w3 ⟨rfl, bq⟩
          replace Ho := Lib.hid (Ho.out.below bq)
          replace Hc := Lib.hid (Hc.out.below bq)
          replace HB := Lib.hid (HB.out.trans (bq.mono HB.out.size)); clear bq
          go_wp2_with fail
          refine (pend_c _ c sb al tn Hc.out lb.out).mono ?_; rintro e0 w4 ⟨rfl, bq⟩
          replace Ho := Lib.hid (Ho.out.below bq)
          replace Hc := Lib.hid (Hc.out.below bq)
          replace HB := Lib.hid (HB.out.trans (bq.mono HB.out.size)); clear bq
          go_wp2_with fail
          refine ((write_2 _ o sb al tn Ho.out lb.out la.out ln.out 0 (by decide)).mono (fun _ _ h => retW_to (x' := sb) (y' := 0) (z' := tn) rfl rfl rfl h)).mono ?_; rintro e0 w5 ⟨rfl, h1, hg⟩
          replace Hc := Lib.hid (Hc.out.kept hg (by have := Nco.out; simp; omega))
          replace Ho : Hid (IsC w5 o (sb) (0) (tn)) := h1; clear h1
          replace HB := Lib.hid (HB.out.grown hg HB.out.size (fun k hk => by cases hk; exact Go.out)); clear hg
          go_wp2_with fail
          refine (write_1 _ o sb 0 tn Ho.out lb.out (by decide) ln.out x1 lx.out).mono ?_; rintro e0 w6 ⟨rfl, h1, hg⟩
          replace Hc := Lib.hid (Hc.out.kept hg (by have := Nco.out; simp; omega))
          replace Ho : Hid (IsC w6 o (wrS 1 sb x1) (wrA 1 0 x1) (wrT 1 tn x1)) := h1; clear h1
          replace HB := Lib.hid (HB.out.grown hg HB.out.size (fun k hk => by cases hk; exact Go.out)); clear hg
          go_wp2_with fail
          refine ((read_2 _ c sb al tn Hc.out lb.out la.out ln.out).mono (fun _ _ h => retR_to (n' := al) rfl h)).mono ?_; rintro e0 w7 ⟨rfl, bq⟩
          replace Ho := Lib.hid (Ho.out.below bq)
          replace Hc := Lib.hid (Hc.out.below bq)
          replace HB := Lib.hid (HB.out.trans (bq.mono HB.out.size)); clear bq
          go_wp2_with fail
          refine ((read_1 _ c sb al tn Hc.out lb.out la.out ln.out).mono (fun _ _ h => retR_to (n' := sb) rfl h)).mono ?_; rintro e0 w8 ⟨rfl, bq⟩
          replace Ho := Lib.hid (Ho.out.below bq)
          replace Hc := Lib.hid (Hc.out.below bq)
          replace HB := Lib.hid (HB.out.trans (bq.mono HB.out.size)); clear bq
          go_wp2_with fail
          go_ret
          exact retB_mk rfl HB.out
theorem clintCopies_walk (a0 a1 a2 a3 : Int) (w0 : (Lit.int .u64 a0).wf = true) (w1 : (Lit.int .u64 a1).wf = true) (w2 : (Lit.int .u64 a2).wf = true) (w3 : (Lit.int .i64 a3).wf = true) (w : World) : Calls Try.prog 7 #[.int .u64 a0, .int .u64 a1, .int .u64 a2, .int .i64 a3] w (RetB true w) := by
  obtain ⟨x, rfl, hx⟩ := u64_of_wf w0
  obtain ⟨y, rfl, hy⟩ := u64_of_wf w1
  obtain ⟨z, rfl, hz⟩ := u64_of_wf w2
  have hx' := hx.out; have hy' := hy.out; have hz' := hz.out
  have b1 := Int.tmod_lt_of_pos a3 (show (0 : Int) < 100 by decide)
  have b2 := Int.tmod_lt_of_pos (-a3) (show (0 : Int) < 100 by decide)
  rw [Int.neg_tmod] at b2
  obtain ⟨r, hr⟩ : ∃ r, a3.tmod 100 = r := ⟨_, rfl⟩
  rw [hr] at b1 b2
  have h3 : z % 2 < 2 := Nat.mod_lt _ (by decide)
  by_cases h : r < 0
  · obtain ⟨n, hn⟩ : ∃ n : Nat, -r = (n : Int) := ⟨(-r).toNat, by omega⟩
    refine copies_core1 x y z (z % 2) n ((x + n) % 18446744073709551616) ((z + 1) % 18446744073709551616) 0 a3 r hr h ?_ (and1 z hz.out) ?_ ?_ ?_ (Lib.hid ⟨hx', hy', hz', h3, by omega, rfl, Nat.mod_lt _ (by decide), rfl, Nat.mod_lt _ (by decide)⟩) w
    · rw [hn]; exact IntWalk.i64_in _ (by omega)
    all_goals (rw [IntKind.wrap_u64]; omega)
  · obtain ⟨n, hn⟩ : ∃ n : Nat, r = (n : Int) := ⟨r.toNat, by omega⟩
    refine copies_core0 x y z (z % 2) n ((x + n) % 18446744073709551616) ((z + 1) % 18446744073709551616) 0 a3 r hr hn (and1 z hz.out) ?_ ?_ ?_ (Lib.hid ⟨hx', hy', hz', h3, by omega, rfl, Nat.mod_lt _ (by decide), rfl, Nat.mod_lt _ (by decide)⟩) w
    all_goals (rw [IntKind.wrap_u64]; omega)
end Go.Proofs.Ytilfeanampomjaa
